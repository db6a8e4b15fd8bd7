/-
  The walks of package swu: the map to the second curve.
  The walks of package swu: fractions, Iso, Map.
  What the laws of layer 14 share.
  The laws SwuMaps, SwuIso, SwuSigns.
-/
import Derived.Test.YtdkmalaffcfoeaaGreatDoorQ5
import Derived.Test.YtdkmalaffcfoeaaGreatDoorX3
namespace Go.Proofs.YtdkmalaffcfoeaaGreatDoor
open Go.RowKit
set_option maxRecDepth 100000
set_option maxHeartbeats 1000000
attribute [local simp] fe_len nm_len AS_len SS_len MONT_len RM_len FRs_len BYs_len by48_len PLl TWOl ONEl N1l IVPl HFPl RTPl FL_len SP_len fe2_len SP2_len FM_len GL_len RW_len RPr_len

theorem ent126 : Enters Tryz.prog 126 := fun _ _ => by kernel_rfl
theorem bytes_pre {w : World} {b : Nat} {c : List Value} {xs : List (BitVec 8)} (h : w.rangeAt b 0 c) (ht : c.take xs.length = xs.map U8) : BytesAt w (some ⟨b, 0, none⟩) xs := by
  refine BytesAt.range fun j v hv => h j v ?_
  rw [← ht, List.getElem?_take] at hv
  split at hv
  · exact hv
  · cases hv
theorem spart (s0 : ByteArray) (xs : List (BitVec 8)) (h0 : s0.data.toList = xs.map (fun x => UInt8.ofBitVec x)) : Pure Tryz.prog Gt 104 [.string s0] (EV (FV xs)) := by
  intro w hw
  have hGF : BOk Gt (pl w) := gt_low.plain hw
  refine calls_of_X (G := Gt) Tryz.func104 rfl rfl (Hp (pl w) []) (hp_refl (pl w) trivial rides_true) (good_hp hGF) ?_
  refine xs_plain (E := EE [1000022]) ?_
  refine lx_allocr 2 hGF zv27 rfl rfl ?_
  intro b2
  refine lx_nil ?_
  refine xs_plain (E := EE [1000022]) ?_
  refine lx_move rfl rfl rfl ?_
  refine lx_str 7 (xs := xs) rfl hGF rfl Tryz.underlying9 Tryz.underlying22 Tryz.underlying5 h0 rfl rfl (fun b7 c7 k7 e7 l7 t7 => ?_)
  refine lx_callC rfl rfl ent127 (fun w' hC hG => ffrom_calls _ _ xs w' hG (bytes_pre (hp_row (n := 7) rfl w' hC) t7)) rfl rfl ?_
  refine lx_move rfl rfl rfl ?_
  refine lx_ext rfl rfl rfl rfl ?_
  refine lx_ext rfl rfl rfl rfl ?_
  refine lx_allocr 3 hGF zv27 rfl rfl ?_
  intro b3
  refine lx_storea 3 hGF rfl rfl rfl Tryz.sizeOf27 (by simp) (by simp) (one_u64 _) rfl ?_
  refine lx_assign rfl rfl rfl ?_
  refine lx_nil ?_
  refine xs_plain (E := EE [1000022]) ?_
  refine lx_loada 3 rfl rfl Tryz.isAgg27 Tryz.sizeOf27 (by simp) rfl rfl ?_
  refine lx_storea 2 hGF rfl rfl rfl Tryz.sizeOf27 (by simp) (by simp) (one_u64 _) rfl ?_
  refine lx_nil ?_
  refine x_ret ?_
  repeat (first | refine kseq_ret ?_ | refine kblk_ret ?_)
  exact kret_own 2 rfl rfl rfl Tryz.isAgg27 Tryz.sizeOf27 (by simp) (fun w hw => ⟨rfl, hp_below hw⟩)
/-- Two pairs as a row of twenty-four. -/
def R24 (f g : Nat → W2) (i : Nat) : List (BitVec 64) := (fe (f i).1 ++ fe (f i).2) ++ (fe (g i).1 ++ fe (g i).2)
theorem R24_len (f g : Nat → W2) (i : Nat) : (R24 f g i).length = 24 := by simp [R24]
attribute [local simp] R24_len
def z4 : Nat → W2 := fun _ => ze2
abbrev TV24 (f g : Nat → W2) : Value := .agg ((RW 24 (R24 f g) 4).map U64).toArray
theorem zv111 (w : World) : (zeroValue 111).run Tryz.prog w = .ok (.agg (((fe 0 ++ fe 0) ++ (fe 0 ++ fe 0)).map U64).toArray) w := by rw [fe_0]; exact (Tryz.zeroValue111 w).trans (by rfl)
theorem two111 : Two Tryz.prog 111 ⟨ "over", 29, 0, false, "", "pharos/swu", 0⟩ ⟨ "under", 29, 12, false, "", "pharos/swu", 96⟩ 12 12 (fe 0 ++ fe 0) (fe 0 ++ fe 0) := ⟨Tryz.underlying111, rfl, rfl, Tryz.sizeOf29, Tryz.sizeOf29, zv111, by simp, by simp⟩
theorem row_z4 : RW 24 (R24 z4 z4) 4 = List.replicate 96 0#64 := by
  have e : ∀ i, R24 z4 z4 i = List.replicate 24 0#64 := fun i => by
    show (fe 0 ++ fe 0) ++ (fe 0 ++ fe 0) = List.replicate 24 0#64
    rw [fe_0]; rfl
  simp only [RW, e]
  rfl
theorem zv112 (w : World) : (zeroValue 112).run Tryz.prog w = .ok (TV24 z4 z4) w := by
  show _ = Result.ok (Value.agg ((RW 24 (R24 z4 z4) 4).map U64).toArray) w
  rw [row_z4]; exact (Tryz.zeroValue112 w).trans (by rfl)
theorem four_in (f z : Nat → List (BitVec 64)) : ∀ i, i < 4 → updR f [0, 1, 2, 3] z i = f i := fun i hi => updR_at _ _ _ _ (.inl (by
  match i, hi with
  | 0, _ => decide
  | 1, _ => decide
  | 2, _ => decide
  | 3, _ => decide))
theorem fall_calls (f g : Nat → W2) (w : World) (hw : Gt w) : Calls Tryz.prog 103 [TV24 f g].toArray w (fun e w' => ∃ b1, e = .returned (.func (.func 126) #[] #[.pointer (some ⟨b1, 0, none⟩)]) ∧ Grow w w' ∧ w.heap.size ≤ b1 ∧ OwnB w' b1 ((RW 24 (R24 f g) 4).map U64) 112) := by
  have hGF : BOk Gt (pl w) := gt_low.plain hw
  refine calls_of_X (G := Gt) Tryz.func103 rfl rfl (Hp (pl w) []) (hp_refl (pl w) trivial rides_true) (good_hp hGF) ?_
  refine xs_plain (E := EE []) ?_
  refine lx_boxr 1 hGF rfl rfl rfl ?_
  intro b1
  refine lx_assign rfl rfl rfl ?_
  refine lx_nil ?_
  refine xs_plain (E := EE []) ?_
  refine lx_func rfl rfl rfl rfl ?_
  refine lx_assign rfl rfl rfl ?_
  refine lx_nil ?_
  refine x_ret ?_
  repeat (first | refine kseq_ret ?_ | refine kblk_ret ?_)
  exact kret_tmp rfl rfl (fun w hw => ⟨b1, rfl, hp_below hw, (hw.own 1 b1 _ _ rfl).2.elim id False.elim, (hw.own 1 b1 _ _ rfl).1⟩)
def PS4 (f g : Nat → W2) : List (List Value) := (List.range 4).map fun (k : Nat) => [EV2 (f k), EV2 (g k)]
theorem PS4_len (f g : Nat → W2) : (PS4 f g).length = 4 := by rw [PS4, List.length_map, List.length_range]
theorem PS4_get (f g : Nat → W2) (k : Nat) (h : k < 4) : (PS4 f g)[k]? = some [EV2 (f k), EV2 (g k)] := by
  rw [PS4, List.getElem?_map, List.getElem?_range h]; rfl
theorem PS4_at (f g : Nat → W2) (k : Nat) (v : List Value) (h : (PS4 f g)[k]? = some v) : k < 4 ∧ v = [EV2 (f k), EV2 (g k)] := by
  have hk : k < 4 := by
    rcases Nat.lt_or_ge k 4 with hk | hk
    · exact hk
    · rw [List.getElem?_eq_none (by rw [PS4_len]; exact hk)] at h; cases h
  exact ⟨hk, (Option.some.inj ((PS4_get f g k hk).symm.trans h)).symm⟩
def RdP4 (bb : Nat) (f g : Nat → W2) : Cls := fun w => w.rangeAt bb 0 ((RW 24 (R24 f g) 4).map U64)
theorem fall_seq (bb : Nat) (f g : Nat → W2) : SeqOk Tryz.prog Gt 126 [.pointer (some ⟨bb, 0, none⟩)] (PS4 f g) (RdP4 bb f g) := by
  intro l J Jx hJ hJx hRd hGx hY w hj
  have okJ : ∀ k, BOk Gt (Bi w (fun Y => J Y k)) := fun k => ⟨fun _ _ _ h => (hRd _ _ _ h.rid).1, hJ k⟩
  have okX : ∀ k, BOk Gt (Bi w (fun Y => Jx Y k)) := fun k => ⟨fun _ _ _ h => hGx _ _ _ h.rid, hJx k⟩
  have c1 : ∀ k L w', Hp (Bi w (fun Y => J Y k)) L w' → RdP4 bb f g w' := fun k L w' h => (hRd _ _ _ h.rid).2
  refine calls_of_X (G := Gt) Tryz.func126 rfl rfl (Hp (Bi w (fun Y => J Y 0)) []) (hp_refl (Bi w _) hj (hJ 0)) (good_hp (okJ 0)) ?_
  refine xs_plain (E := EE []) ?_
  refine lx_loadr rfl Tryz.isAgg112 Tryz.sizeOf112 (by simp) (fun w h => c1 _ _ w h) rfl rfl ?_
  refine lx_move rfl rfl rfl ?_
  refine lx_nil ?_
  refine x_block ?_
  refine x_forB (ι := { i : Nat // i ≤ 4 }) (fun y => [(0, .func (.yield l) #[] #[]), (1, .pointer (some ⟨bb, 0, none⟩)), (5, TV24 f g), (6, I (y.1 : Int))]) (fun y => Bi w (fun Y => J Y y.1)) (fun y => []) (fun y => 4 - y.1) ⟨0, Nat.zero_le _⟩ (fun _ => okJ _) rfl ⟨rfl, rfl, rfl, rfl, trivial⟩ trivial ?_
  rintro ⟨i, hi⟩
  dsimp only
  refine xs_plain (E := EE []) ?_
  refine lx_bin rfl rfl (fun _ => rfl) (fun _ => bin_lss_i _ _ _) rfl rfl ?_
  refine lx_nil ?_
  refine x_seq ?_
  refine x_if rfl (fun hc => ?_) (fun hc => ?_)
  · have hi2 : i < 4 := by simp at hc; omega
    refine x_skip ?_
    refine x_seq ?_
    refine x_block ?_
    refine xs_plain (E := EE []) ?_
    refine lx_idxW (s := 24) (R24 f g) i rfl rfl Tryz.underlying112 Tryz.sizeOf111 Tryz.isAgg111 rfl (by omega) (R24_len _ _ _) rfl rfl ?_
    refine lx_allocr 4 (okJ _) zv111 rfl rfl ?_
    intro b4
    refine lx_storea 4 (okJ _) rfl rfl rfl Tryz.sizeOf111 (by simp) (by simp) (one_u64 _) rfl ?_
    refine lx_nil ?_
    refine xs_plain (E := EE []) ?_
    refine lx_move rfl rfl rfl ?_
    refine lx_fak 0 rfl Tryz.underlying111 rfl Tryz.sizeOf29 (by decide) rfl rfl rfl ?_
    refine lx_loado 4 _ rfl rfl Tryz.isAgg29 Tryz.sizeOf29 (by simp) ld_l rfl rfl ?_
    refine lx_fak 12 rfl Tryz.underlying111 rfl Tryz.sizeOf29 (by decide) rfl rfl rfl ?_
    refine lx_loado 4 _ rfl rfl Tryz.isAgg29 Tryz.sizeOf29 (by simp) (ld_r (by simp)) rfl rfl ?_
    refine lx_yield (hY.b (k := i) (PS4_get f g i (by omega)) w) (okJ _) (okX _) rfl rfl rfl rfl rfl ?_ ?_
    · skip
      refine lx_un rfl (fun _ => un_not _) rfl rfl ?_
      refine lx_nil ?_
      refine x_false rfl ?_
      refine x_skip ?_
      refine x_plain (E := EE []) ?_
      refine lx_bin rfl rfl (fun _ => rfl) (fun _ => bin_add_i _ _ _ (by unfold inI; omega)) rfl rfl ?_
      refine lx_move rfl rfl rfl ?_
      refine lx_nil ?_
      repeat (refine kblk_n ?_)
      refine kseq_n ?_
      exact ⟨rfl, ⟨i + 1, by omega⟩, _, by show 4 - (i + 1) < 4 - i; omega, rfl, ⟨rfl, rfl, rfl, rfl, trivial⟩, trivial⟩
    · skip
      refine lx_un rfl (fun _ => un_not _) rfl rfl ?_
      refine lx_nil ?_
      refine x_true rfl ?_
      refine x_ret ?_
      repeat (first | refine kseq_ret ?_ | refine kblk_ret ?_)
      repeat (first | refine kseq_x ?_ | refine kblk_x ?_ | refine kblk_p rfl ?_ | refine kseq_ret ?_ | refine kblk_ret ?_)
      exact kret_none rfl (fun w hw => ⟨⟨_, rfl⟩, .inr ⟨_, drop_yof (hJx _) hw.rid⟩⟩)
  · obtain rfl : i = 4 := by simp at hc; omega
    refine x_exit ?_
    repeat (first | refine kseq_x ?_ | refine kblk_x ?_ | refine kblk_p rfl ?_ | refine kseq_ret ?_ | refine kblk_ret ?_)
    refine kend_none rfl (fun w hw => ⟨⟨_, rfl⟩, .inl ?_⟩)
    have := drop_yof (hJ _) hw.rid
    rw [PS4_len]
    exact this
end Go.Proofs.YtdkmalaffcfoeaaGreatDoor

namespace Go.Proofs.YtdkmalaffcfoeaaGreatDoor
open Go.RowKit
set_option maxRecDepth 100000
set_option maxHeartbeats 1000000
attribute [local simp] fe_len nm_len AS_len SS_len MONT_len RM_len FRs_len BYs_len by48_len PLl TWOl ONEl N1l IVPl HFPl RTPl FL_len SP_len fe2_len SP2_len FM_len GL_len RW_len RPr_len R24_len

theorem range_grow {w w' : World} {b o : Nat} {cs : List Value} (hg : Grow w w') (h : w.rangeAt b o cs) : w'.rangeAt b o cs := fun j v hj => (hg.cell (block_lt_of_cell (h j v hj))).trans (h j v hj)
theorem frac_calls (x : W2) (f g : Nat → W2) (bb : Nat) (w : World) (hw : Gt w) (hRs : ∀ w', Grow w w' → RdP4 bb f g w') :
    Calls Tryz.prog 56 [EV2 x, .func (.func 126) #[] #[.pointer (some ⟨bb, 0, none⟩)]].toArray w (fun r w' => r = .returned (.tuple #[EV2 (HK f x 4), EV2 (HK g x 4)]) ∧ Grow w w') := by
  have hGF : BOk Gt (pl w) := gt_low.plain hw
  refine calls_of_XM (G := Gt) Tryz.func56 rfl rfl (Hp (pl w) []) (hp_refl (pl w) trivial rides_true) (good_hp hGF) ?_
  refine xs_plain (E := EE []) ?_
  refine lx_boxr 2 hGF rfl rfl rfl ?_
  intro b2
  refine lx_allocr 4 hGF zv29 rfl rfl ?_
  intro b4
  refine lx_allocr 5 hGF zv29 rfl rfl ?_
  intro b5
  refine lx_nil ?_
  refine x_seq ?_
  refine xs_plain (E := EE []) ?_
  refine lx_move rfl rfl rfl ?_
  refine lx_nil ?_
  refine x_block ?_
  refine x_range (fun _ => pl w) (fun _ _ => pl w) (fun _ => hGF) (fun _ _ => hGF) (fun _ => rfl) (fun _ _ => rfl) rfl rfl ent126 (fall_seq bb f g) (fun x hx => by obtain ⟨k, hk, rfl⟩ := List.mem_map.1 hx; rfl) rfl (fun k => [(2, b2, (fe (x).1 ++ fe (x).2).map U64, 29), (4, b4, (fe (HK f x k).1 ++ fe (HK f x k).2).map U64, 29), (5, b5, (fe (HK g x k).1 ++ fe (HK g x k).2).map U64, 29)]) (fun _ _ _ => False) ⟨rfl, rfl, rfl, trivial⟩ (fun k _ w' h => hRs w' (h.below (fun _ h => h))) ?_ ?_ (fun _ _ _ _ _ h => h.elim)
  · intro k v hx R hR
    obtain ⟨hk, rfl⟩ := PS4_at f g k v hx
    refine xs_plain (E := EE []) ?_
    refine lx_allocr 6 (hR (pl w) rfl hGF).1 zv29 rfl rfl ?_
    intro b6
    refine lx_storea 6 (hR (pl w) rfl hGF).1 rfl rfl rfl Tryz.sizeOf29 (by simp) (by simp) (one_u64 _) rfl ?_
    refine lx_nil ?_
    refine x_plain (E := EE []) ?_
    refine lx_allocr 7 (hR (pl w) rfl hGF).1 zv29 rfl rfl ?_
    intro b7
    refine lx_storea 7 (hR (pl w) rfl hGF).1 rfl rfl rfl Tryz.sizeOf29 (by simp) (by simp) (one_u64 _) rfl ?_
    refine lx_nil ?_
    refine ⟨rfl, _, rfl, ?_⟩
    refine x_block ?_
    refine x_drawn (E := EE []) mixed (by kernel_rfl) (by kernel_rfl) (by kernel_rfl) ?_
    refine lx_loada 4 rfl rfl Tryz.isAgg29 Tryz.sizeOf29 (by simp) rfl rfl ?_
    refine lx_loada 2 rfl rfl Tryz.isAgg29 Tryz.sizeOf29 (by simp) rfl rfl ?_
    refine lx_call rfl rfl ent34 (e2mul _ _) rfl rfl ?_
    refine lx_loada 6 rfl rfl Tryz.isAgg29 Tryz.sizeOf29 (by simp) rfl rfl ?_
    refine lx_call rfl rfl ent86 (e2add _ _) rfl rfl ?_
    refine lx_loada 5 rfl rfl Tryz.isAgg29 Tryz.sizeOf29 (by simp) rfl rfl ?_
    refine lx_loada 2 rfl rfl Tryz.isAgg29 Tryz.sizeOf29 (by simp) rfl rfl ?_
    refine lx_call rfl rfl ent34 (e2mul _ _) rfl rfl ?_
    refine lx_loada 7 rfl rfl Tryz.isAgg29 Tryz.sizeOf29 (by simp) rfl rfl ?_
    refine lx_call rfl rfl ent86 (e2add _ _) rfl rfl ?_
    refine lx_storea 4 (hR (pl w) rfl hGF).2.1 rfl rfl rfl Tryz.sizeOf29 (by simp) (by simp) (one_u64 _) rfl ?_
    refine lx_storea 5 (hR (pl w) rfl hGF).2.1 rfl rfl rfl Tryz.sizeOf29 (by simp) (by simp) (one_u64 _) rfl ?_
    refine lx_nil ?_
    repeat (refine kblk_n ?_)
    exact ⟨_, rfl, ⟨rfl, rfl, rfl, trivial⟩⟩
  · intro D hD
    rw [PS4_len]
    refine xs_drawK (E := EE []) (fun X => X = Hp (B2 (pl w) D) [(5, b5, (fe (HK g x 4).1 ++ fe (HK g x 4).2).map U64, 29)]) (mkB [4]) (rkB [22]) [0, 1, 2, 3] mixed rfl (by kernel_rfl) (by kernel_rfl) (by kernel_rfl) ?_
    refine lxk_s rfl rfl ?_
    refine lx_loada 4 rfl rfl Tryz.isAgg29 Tryz.sizeOf29 (by simp) rfl rfl ?_
    refine lx_nil ?_
    refine lxk_q (X := Hp (B2 (pl w) D) [(5, b5, (fe (HK g x 4).1 ++ fe (HK g x 4).2).map U64, 29)]) rfl (hp_sub hD.r ⟨rfl, trivial⟩) (fun _ => rfl) ?_
    refine lx_loada 5 rfl rfl Tryz.isAgg29 Tryz.sizeOf29 (by simp) rfl rfl ?_
    refine lx_nil ?_
    refine lxk_e rfl ?_
    refine lx_storea 4 hD rfl rfl rfl Tryz.sizeOf29 (by simp) (by simp) (one_u64 _) rfl ?_
    refine lx_nil ?_
    refine ⟨fun _ X hX _ => by subst hX; exact hp_sub hD.r ⟨rfl, trivial⟩, ?_⟩
    refine lxk_e rfl ?_
    refine lx_storea 5 hD rfl rfl rfl Tryz.sizeOf29 (by simp) (by simp) (one_u64 _) rfl ?_
    refine lx_nil ?_
    refine ⟨fun h => (by cases h), ?_⟩
    refine lxk_nil ?_
    refine x_ret ?_
    repeat (first | refine kseq_ret ?_ | refine kblk_ret ?_)
    exact kretM_1 (.inl rfl) rides_true (kret_cc 4 5 rfl rfl rfl rfl rfl Tryz.isAgg29 Tryz.sizeOf29 (by simp) (by simp) (fun w hw => ⟨rfl, hp_below hw⟩))
def oX (k : Nat) : W2 := cXN (3 - k)
def oY (k : Nat) : W2 := cYN (3 - k)
def uX : Nat → W2
  | 0 => ze2
  | 1 => on2
  | 2 => (zp 12, -zp 12)
  | _ => (0, -zp 72)
def uY : Nat → W2
  | 0 => on2
  | 1 => (zp 18, -zp 18)
  | 2 => (0, -zp 216)
  | _ => (-zp 432, -zp 432)
theorem oX_h (x : W2) : HK oX x 4 = R2.pev iXN x := HK_4 oX x
theorem oY_h (x : W2) : HK oY x 4 = R2.pev iYN x := HK_4 oY x
theorem uX_h (x : W2) : HK uX x 4 = R2.pev iXD x := (HK_z uX x rfl).trans (by rw [show [uX 3, uX 2, uX 1] = iXD by decide +kernel])
theorem uY_h (x : W2) : HK uY x 4 = R2.pev iYD x := (HK_4 uY x).trans (by rw [show [uY 3, uY 2, uY 1, uY 0] = iYD by decide +kernel])
def pb0 : List (BitVec 8) := [23#8, 29#8, 101#8, 65#8, 250#8, 56#8, 204#8, 250#8, 237#8, 109#8, 234#8, 105#8, 31#8, 95#8, 182#8, 20#8, 203#8, 20#8, 180#8, 231#8, 244#8, 232#8, 16#8, 170#8, 34#8, 214#8, 16#8, 143#8, 20#8, 43#8, 133#8, 117#8, 112#8, 152#8, 227#8, 141#8, 15#8, 103#8, 28#8, 113#8, 136#8, 226#8, 170#8, 170#8, 170#8, 170#8, 94#8, 209#8]
theorem pb0_v : FV pb0 = zp 0x171d6541fa38ccfaed6dea691f5fb614cb14b4e7f4e810aa22d6108f142b85757098e38d0f671c7188e2aaaaaaaa5ed1 := by rw [FV, if_pos ⟨rfl, by decide +kernel⟩]; decide +kernel
theorem pb0_e (s0 : ByteArray) (h0 : s0.data.toList = pb0.map (fun x => UInt8.ofBitVec x)) {a : Zp} (ha : zp 0x171d6541fa38ccfaed6dea691f5fb614cb14b4e7f4e810aa22d6108f142b85757098e38d0f671c7188e2aaaaaaaa5ed1 = a) : Pure Tryz.prog Gt 104 [.string s0] (EV a) := by
  have h := spart s0 pb0 h0
  rw [pb0_v, ha] at h
  exact h
def pb1 : List (BitVec 8) := [17#8, 86#8, 11#8, 241#8, 123#8, 170#8, 153#8, 188#8, 50#8, 18#8, 111#8, 206#8, 215#8, 135#8, 200#8, 143#8, 152#8, 79#8, 135#8, 173#8, 247#8, 174#8, 12#8, 127#8, 154#8, 32#8, 140#8, 107#8, 79#8, 32#8, 164#8, 24#8, 20#8, 114#8, 170#8, 169#8, 203#8, 141#8, 85#8, 85#8, 38#8, 169#8, 255#8, 255#8, 255#8, 255#8, 199#8, 30#8]
theorem pb1_v : FV pb1 = zp 0x11560bf17baa99bc32126fced787c88f984f87adf7ae0c7f9a208c6b4f20a4181472aaa9cb8d555526a9ffffffffc71e := by rw [FV, if_pos ⟨rfl, by decide +kernel⟩]; decide +kernel
theorem pb1_e (s0 : ByteArray) (h0 : s0.data.toList = pb1.map (fun x => UInt8.ofBitVec x)) {a : Zp} (ha : zp 0x11560bf17baa99bc32126fced787c88f984f87adf7ae0c7f9a208c6b4f20a4181472aaa9cb8d555526a9ffffffffc71e = a) : Pure Tryz.prog Gt 104 [.string s0] (EV a) := by
  have h := spart s0 pb1 h0
  rw [pb1_v, ha] at h
  exact h
def pb2 : List (BitVec 8) := [8#8, 171#8, 5#8, 248#8, 189#8, 213#8, 76#8, 222#8, 25#8, 9#8, 55#8, 231#8, 107#8, 195#8, 228#8, 71#8, 204#8, 39#8, 195#8, 214#8, 251#8, 215#8, 6#8, 63#8, 205#8, 16#8, 70#8, 53#8, 167#8, 144#8, 82#8, 12#8, 10#8, 57#8, 85#8, 84#8, 229#8, 198#8, 170#8, 170#8, 147#8, 84#8, 255#8, 255#8, 255#8, 255#8, 227#8, 141#8]
theorem pb2_v : FV pb2 = zp 0x8ab05f8bdd54cde190937e76bc3e447cc27c3d6fbd7063fcd104635a790520c0a395554e5c6aaaa9354ffffffffe38d := by rw [FV, if_pos ⟨rfl, by decide +kernel⟩]; decide +kernel
theorem pb2_e (s0 : ByteArray) (h0 : s0.data.toList = pb2.map (fun x => UInt8.ofBitVec x)) {a : Zp} (ha : zp 0x8ab05f8bdd54cde190937e76bc3e447cc27c3d6fbd7063fcd104635a790520c0a395554e5c6aaaa9354ffffffffe38d = a) : Pure Tryz.prog Gt 104 [.string s0] (EV a) := by
  have h := spart s0 pb2 h0
  rw [pb2_v, ha] at h
  exact h
def pb3 : List (BitVec 8) := [17#8, 86#8, 11#8, 241#8, 123#8, 170#8, 153#8, 188#8, 50#8, 18#8, 111#8, 206#8, 215#8, 135#8, 200#8, 143#8, 152#8, 79#8, 135#8, 173#8, 247#8, 174#8, 12#8, 127#8, 154#8, 32#8, 140#8, 107#8, 79#8, 32#8, 164#8, 24#8, 20#8, 114#8, 170#8, 169#8, 203#8, 141#8, 85#8, 85#8, 38#8, 169#8, 255#8, 255#8, 255#8, 255#8, 199#8, 26#8]
theorem pb3_v : FV pb3 = zp 0x11560bf17baa99bc32126fced787c88f984f87adf7ae0c7f9a208c6b4f20a4181472aaa9cb8d555526a9ffffffffc71a := by rw [FV, if_pos ⟨rfl, by decide +kernel⟩]; decide +kernel
theorem pb3_e (s0 : ByteArray) (h0 : s0.data.toList = pb3.map (fun x => UInt8.ofBitVec x)) {a : Zp} (ha : zp 0x11560bf17baa99bc32126fced787c88f984f87adf7ae0c7f9a208c6b4f20a4181472aaa9cb8d555526a9ffffffffc71a = a) : Pure Tryz.prog Gt 104 [.string s0] (EV a) := by
  have h := spart s0 pb3 h0
  rw [pb3_v, ha] at h
  exact h
def pb4 : List (BitVec 8) := [5#8, 199#8, 89#8, 80#8, 126#8, 142#8, 51#8, 62#8, 187#8, 91#8, 122#8, 154#8, 71#8, 215#8, 237#8, 133#8, 50#8, 197#8, 45#8, 57#8, 253#8, 58#8, 4#8, 42#8, 136#8, 181#8, 132#8, 35#8, 197#8, 10#8, 225#8, 93#8, 92#8, 38#8, 56#8, 227#8, 67#8, 217#8, 199#8, 28#8, 98#8, 56#8, 170#8, 170#8, 170#8, 170#8, 151#8, 214#8]
theorem pb4_v : FV pb4 = zp 0x5c759507e8e333ebb5b7a9a47d7ed8532c52d39fd3a042a88b58423c50ae15d5c2638e343d9c71c6238aaaaaaaa97d6 := by rw [FV, if_pos ⟨rfl, by decide +kernel⟩]; decide +kernel
theorem pb4_e (s0 : ByteArray) (h0 : s0.data.toList = pb4.map (fun x => UInt8.ofBitVec x)) {a : Zp} (ha : zp 0x5c759507e8e333ebb5b7a9a47d7ed8532c52d39fd3a042a88b58423c50ae15d5c2638e343d9c71c6238aaaaaaaa97d6 = a) : Pure Tryz.prog Gt 104 [.string s0] (EV a) := by
  have h := spart s0 pb4 h0
  rw [pb4_v, ha] at h
  exact h
theorem ofX_calls (w : World) (hw : Gt w) : Calls Tryz.prog 57 [].toArray w (fun e w' => ∃ b1, e = .returned (.func (.func 126) #[] #[.pointer (some ⟨b1, 0, none⟩)]) ∧ Grow w w' ∧ w.heap.size ≤ b1 ∧ OwnB w' b1 ((RW 24 (R24 oX uX) 4).map U64) 112) := by
  have hGF : BOk Gt (pl w) := gt_low.plain hw
  refine calls_of_X (G := Gt) Tryz.func57 rfl rfl (Hp (pl w) []) (hp_refl (pl w) trivial rides_true) (good_hp hGF) ?_
  refine xs_plain (E := EE [103, 2000103]) ?_
  refine lx_assign rfl rfl rfl ?_
  refine lx_nil ?_
  refine xs_plain (E := EE [103, 2000103]) ?_
  refine lx_call rfl rfl ent104 (pb0_e _ rfl rfl) rfl rfl ?_
  refine lx_twoA two29 rfl (by simp) rfl rfl ?_
  refine lx_two0 two29 rfl rfl ?_
  refine lx_two two111 rfl rfl (by simp) (by simp) rfl rfl ?_
  refine lx_call rfl rfl ent104 (pb1_e _ rfl rfl) rfl rfl ?_
  refine lx_call rfl rfl ent104 (pb2_e _ rfl rfl) rfl rfl ?_
  refine lx_two two29 rfl rfl (by simp) (by simp) rfl rfl ?_
  refine lx_call rfl rfl ent25 (e2one) rfl rfl ?_
  refine lx_two two111 rfl rfl (by simp) (by simp) rfl rfl ?_
  refine lx_call rfl rfl ent104 (pb3_e _ rfl rfl) rfl rfl ?_
  refine lx_twoB two29 rfl (by simp) rfl rfl ?_
  refine lx_call rfl rfl ent30 (fof_pure _) rfl rfl ?_
  refine lx_call rfl rfl ent30 (fof_pure _) rfl rfl ?_
  refine lx_call rfl rfl ent55 (fneg_pure _) rfl rfl ?_
  refine lx_two two29 rfl rfl (by simp) (by simp) rfl rfl ?_
  refine lx_two two111 rfl rfl (by simp) (by simp) rfl rfl ?_
  refine lx_call rfl rfl ent104 (pb4_e _ rfl rfl) rfl rfl ?_
  refine lx_call rfl rfl ent104 (pb4_e _ rfl rfl) rfl rfl ?_
  refine lx_two two29 rfl rfl (by simp) (by simp) rfl rfl ?_
  refine lx_call rfl rfl ent30 (fof_pure _) rfl rfl ?_
  refine lx_call rfl rfl ent55 (fneg_pure _) rfl rfl ?_
  refine lx_twoB two29 rfl (by simp) rfl rfl ?_
  refine lx_two two111 rfl rfl (by simp) (by simp) rfl rfl ?_
  refine lx_rowsW (s := 24) (R24 oX uX) (R24 oX uX) [0, 1, 2, 3] rfl rfl rfl (fun i _ => R24_len _ _ _) Tryz.underlying112 Tryz.sizeOf111 zv112 (four_in _ _) rfl rfl ?_
  refine lx_callG rfl rfl ent103 rfl rfl (fun w' hw' => (fall_calls oX uX w' (hGF.g _ _ _ hw')).mono fun e' w'' h => ?_)
  obtain ⟨c1, rfl, hg, h1, ho⟩ := h
  refine ⟨_, _, rfl, good_hp hGF, hw'.news rides_true hg [(33, c1, (RW 24 (R24 oX uX) 4).map U64, 112)] ?_ inj_one, hp_fresh rides_true rfl, ?_⟩
  · intro n' b' c' t' hl
    rcases lkB_cons hl with ⟨_, e⟩ | ⟨_, hl⟩
    · cases e; exact ⟨h1, ho⟩
    · cases hl
  clear hw' hg h1 ho
  refine lx_assign rfl rfl rfl ?_
  refine lx_nil ?_
  refine x_ret ?_
  repeat (first | refine kseq_ret ?_ | refine kblk_ret ?_)
  exact kret_tmp rfl rfl (fun w hw => ⟨c1, rfl, hp_below hw, (hw.own 33 c1 _ _ rfl).2.elim id False.elim, (hw.own 33 c1 _ _ rfl).1⟩)
def pb5 : List (BitVec 8) := [18#8, 76#8, 154#8, 212#8, 59#8, 108#8, 247#8, 155#8, 251#8, 247#8, 4#8, 61#8, 227#8, 129#8, 26#8, 208#8, 118#8, 27#8, 15#8, 55#8, 161#8, 226#8, 98#8, 134#8, 176#8, 233#8, 119#8, 198#8, 154#8, 162#8, 116#8, 82#8, 78#8, 121#8, 9#8, 122#8, 86#8, 220#8, 75#8, 217#8, 225#8, 179#8, 113#8, 199#8, 28#8, 113#8, 139#8, 16#8]
theorem pb5_v : FV pb5 = zp 0x124c9ad43b6cf79bfbf7043de3811ad0761b0f37a1e26286b0e977c69aa274524e79097a56dc4bd9e1b371c71c718b10 := by rw [FV, if_pos ⟨rfl, by decide +kernel⟩]; decide +kernel
theorem pb5_e (s0 : ByteArray) (h0 : s0.data.toList = pb5.map (fun x => UInt8.ofBitVec x)) {a : Zp} (ha : zp 0x124c9ad43b6cf79bfbf7043de3811ad0761b0f37a1e26286b0e977c69aa274524e79097a56dc4bd9e1b371c71c718b10 = a) : Pure Tryz.prog Gt 104 [.string s0] (EV a) := by
  have h := spart s0 pb5 h0
  rw [pb5_v, ha] at h
  exact h
def pb6 : List (BitVec 8) := [17#8, 86#8, 11#8, 241#8, 123#8, 170#8, 153#8, 188#8, 50#8, 18#8, 111#8, 206#8, 215#8, 135#8, 200#8, 143#8, 152#8, 79#8, 135#8, 173#8, 247#8, 174#8, 12#8, 127#8, 154#8, 32#8, 140#8, 107#8, 79#8, 32#8, 164#8, 24#8, 20#8, 114#8, 170#8, 169#8, 203#8, 141#8, 85#8, 85#8, 38#8, 169#8, 255#8, 255#8, 255#8, 255#8, 199#8, 28#8]
theorem pb6_v : FV pb6 = zp 0x11560bf17baa99bc32126fced787c88f984f87adf7ae0c7f9a208c6b4f20a4181472aaa9cb8d555526a9ffffffffc71c := by rw [FV, if_pos ⟨rfl, by decide +kernel⟩]; decide +kernel
theorem pb6_e (s0 : ByteArray) (h0 : s0.data.toList = pb6.map (fun x => UInt8.ofBitVec x)) {a : Zp} (ha : zp 0x11560bf17baa99bc32126fced787c88f984f87adf7ae0c7f9a208c6b4f20a4181472aaa9cb8d555526a9ffffffffc71c = a) : Pure Tryz.prog Gt 104 [.string s0] (EV a) := by
  have h := spart s0 pb6 h0
  rw [pb6_v, ha] at h
  exact h
def pb7 : List (BitVec 8) := [8#8, 171#8, 5#8, 248#8, 189#8, 213#8, 76#8, 222#8, 25#8, 9#8, 55#8, 231#8, 107#8, 195#8, 228#8, 71#8, 204#8, 39#8, 195#8, 214#8, 251#8, 215#8, 6#8, 63#8, 205#8, 16#8, 70#8, 53#8, 167#8, 144#8, 82#8, 12#8, 10#8, 57#8, 85#8, 84#8, 229#8, 198#8, 170#8, 170#8, 147#8, 84#8, 255#8, 255#8, 255#8, 255#8, 227#8, 143#8]
theorem pb7_v : FV pb7 = zp 0x8ab05f8bdd54cde190937e76bc3e447cc27c3d6fbd7063fcd104635a790520c0a395554e5c6aaaa9354ffffffffe38f := by rw [FV, if_pos ⟨rfl, by decide +kernel⟩]; decide +kernel
theorem pb7_e (s0 : ByteArray) (h0 : s0.data.toList = pb7.map (fun x => UInt8.ofBitVec x)) {a : Zp} (ha : zp 0x8ab05f8bdd54cde190937e76bc3e447cc27c3d6fbd7063fcd104635a790520c0a395554e5c6aaaa9354ffffffffe38f = a) : Pure Tryz.prog Gt 104 [.string s0] (EV a) := by
  have h := spart s0 pb7 h0
  rw [pb7_v, ha] at h
  exact h
def pb8 : List (BitVec 8) := [5#8, 199#8, 89#8, 80#8, 126#8, 142#8, 51#8, 62#8, 187#8, 91#8, 122#8, 154#8, 71#8, 215#8, 237#8, 133#8, 50#8, 197#8, 45#8, 57#8, 253#8, 58#8, 4#8, 42#8, 136#8, 181#8, 132#8, 35#8, 197#8, 10#8, 225#8, 93#8, 92#8, 38#8, 56#8, 227#8, 67#8, 217#8, 199#8, 28#8, 98#8, 56#8, 170#8, 170#8, 170#8, 170#8, 151#8, 190#8]
theorem pb8_v : FV pb8 = zp 0x5c759507e8e333ebb5b7a9a47d7ed8532c52d39fd3a042a88b58423c50ae15d5c2638e343d9c71c6238aaaaaaaa97be := by rw [FV, if_pos ⟨rfl, by decide +kernel⟩]; decide +kernel
theorem pb8_e (s0 : ByteArray) (h0 : s0.data.toList = pb8.map (fun x => UInt8.ofBitVec x)) {a : Zp} (ha : zp 0x5c759507e8e333ebb5b7a9a47d7ed8532c52d39fd3a042a88b58423c50ae15d5c2638e343d9c71c6238aaaaaaaa97be = a) : Pure Tryz.prog Gt 104 [.string s0] (EV a) := by
  have h := spart s0 pb8 h0
  rw [pb8_v, ha] at h
  exact h
def pb9 : List (BitVec 8) := [21#8, 48#8, 71#8, 124#8, 122#8, 180#8, 17#8, 59#8, 89#8, 164#8, 193#8, 139#8, 7#8, 109#8, 17#8, 147#8, 15#8, 125#8, 165#8, 212#8, 160#8, 127#8, 100#8, 155#8, 245#8, 68#8, 57#8, 216#8, 125#8, 39#8, 229#8, 0#8, 252#8, 140#8, 37#8, 235#8, 248#8, 201#8, 47#8, 104#8, 18#8, 207#8, 199#8, 28#8, 113#8, 198#8, 215#8, 6#8]
theorem pb9_v : FV pb9 = zp 0x1530477c7ab4113b59a4c18b076d11930f7da5d4a07f649bf54439d87d27e500fc8c25ebf8c92f6812cfc71c71c6d706 := by rw [FV, if_pos ⟨rfl, by decide +kernel⟩]; decide +kernel
theorem pb9_e (s0 : ByteArray) (h0 : s0.data.toList = pb9.map (fun x => UInt8.ofBitVec x)) {a : Zp} (ha : zp 0x1530477c7ab4113b59a4c18b076d11930f7da5d4a07f649bf54439d87d27e500fc8c25ebf8c92f6812cfc71c71c6d706 = a) : Pure Tryz.prog Gt 104 [.string s0] (EV a) := by
  have h := spart s0 pb9 h0
  rw [pb9_v, ha] at h
  exact h
theorem ofY_calls (w : World) (hw : Gt w) : Calls Tryz.prog 58 [].toArray w (fun e w' => ∃ b1, e = .returned (.func (.func 126) #[] #[.pointer (some ⟨b1, 0, none⟩)]) ∧ Grow w w' ∧ w.heap.size ≤ b1 ∧ OwnB w' b1 ((RW 24 (R24 oY uY) 4).map U64) 112) := by
  have hGF : BOk Gt (pl w) := gt_low.plain hw
  refine calls_of_X (G := Gt) Tryz.func58 rfl rfl (Hp (pl w) []) (hp_refl (pl w) trivial rides_true) (good_hp hGF) ?_
  refine xs_plain (E := EE [103, 2000103]) ?_
  refine lx_assign rfl rfl rfl ?_
  refine lx_nil ?_
  refine xs_plain (E := EE [103, 2000103]) ?_
  refine lx_call rfl rfl ent104 (pb5_e _ rfl rfl) rfl rfl ?_
  refine lx_twoA two29 rfl (by simp) rfl rfl ?_
  refine lx_call rfl rfl ent25 (e2one) rfl rfl ?_
  refine lx_two two111 rfl rfl (by simp) (by simp) rfl rfl ?_
  refine lx_call rfl rfl ent104 (pb6_e _ rfl rfl) rfl rfl ?_
  refine lx_call rfl rfl ent104 (pb7_e _ rfl rfl) rfl rfl ?_
  refine lx_two two29 rfl rfl (by simp) (by simp) rfl rfl ?_
  refine lx_call rfl rfl ent30 (fof_pure _) rfl rfl ?_
  refine lx_call rfl rfl ent30 (fof_pure _) rfl rfl ?_
  refine lx_call rfl rfl ent55 (fneg_pure _) rfl rfl ?_
  refine lx_two two29 rfl rfl (by simp) (by simp) rfl rfl ?_
  refine lx_two two111 rfl rfl (by simp) (by simp) rfl rfl ?_
  refine lx_call rfl rfl ent104 (pb8_e _ rfl rfl) rfl rfl ?_
  refine lx_twoB two29 rfl (by simp) rfl rfl ?_
  refine lx_call rfl rfl ent30 (fof_pure _) rfl rfl ?_
  refine lx_call rfl rfl ent55 (fneg_pure _) rfl rfl ?_
  refine lx_twoB two29 rfl (by simp) rfl rfl ?_
  refine lx_two two111 rfl rfl (by simp) (by simp) rfl rfl ?_
  refine lx_call rfl rfl ent104 (pb9_e _ rfl rfl) rfl rfl ?_
  refine lx_call rfl rfl ent104 (pb9_e _ rfl rfl) rfl rfl ?_
  refine lx_two two29 rfl rfl (by simp) (by simp) rfl rfl ?_
  refine lx_call rfl rfl ent30 (fof_pure _) rfl rfl ?_
  refine lx_call rfl rfl ent55 (fneg_pure _) rfl rfl ?_
  refine lx_call rfl rfl ent30 (fof_pure _) rfl rfl ?_
  refine lx_call rfl rfl ent55 (fneg_pure _) rfl rfl ?_
  refine lx_two two29 rfl rfl (by simp) (by simp) rfl rfl ?_
  refine lx_two two111 rfl rfl (by simp) (by simp) rfl rfl ?_
  refine lx_rowsW (s := 24) (R24 oY uY) (R24 oY uY) [0, 1, 2, 3] rfl rfl rfl (fun i _ => R24_len _ _ _) Tryz.underlying112 Tryz.sizeOf111 zv112 (four_in _ _) rfl rfl ?_
  refine lx_callG rfl rfl ent103 rfl rfl (fun w' hw' => (fall_calls oY uY w' (hGF.g _ _ _ hw')).mono fun e' w'' h => ?_)
  obtain ⟨c1, rfl, hg, h1, ho⟩ := h
  refine ⟨_, _, rfl, good_hp hGF, hw'.news rides_true hg [(33, c1, (RW 24 (R24 oY uY) 4).map U64, 112)] ?_ inj_one, hp_fresh rides_true rfl, ?_⟩
  · intro n' b' c' t' hl
    rcases lkB_cons hl with ⟨_, e⟩ | ⟨_, hl⟩
    · cases e; exact ⟨h1, ho⟩
    · cases hl
  clear hw' hg h1 ho
  refine lx_assign rfl rfl rfl ?_
  refine lx_nil ?_
  refine x_ret ?_
  repeat (first | refine kseq_ret ?_ | refine kblk_ret ?_)
  exact kret_tmp rfl rfl (fun w hw => ⟨c1, rfl, hp_below hw, (hw.own 33 c1 _ _ rfl).2.elim id False.elim, (hw.own 33 c1 _ _ rfl).1⟩)
theorem frac_x (x : W2) (bb : Nat) (w : World) (hw : Gt w) (h : w.rangeAt bb 0 ((RW 24 (R24 oX uX) 4).map U64)) : Calls Tryz.prog 56 [EV2 x, .func (.func 126) #[] #[.pointer (some ⟨bb, 0, none⟩)]].toArray w (fun r w' => r = .returned (.tuple #[EV2 (R2.pev iXN x), EV2 (R2.pev iXD x)]) ∧ Grow w w') := by
  have e := frac_calls x oX uX bb w hw (fun w' hg => range_grow hg h)
  rw [oX_h, uX_h] at e
  exact e
theorem frac_y (x : W2) (bb : Nat) (w : World) (hw : Gt w) (h : w.rangeAt bb 0 ((RW 24 (R24 oY uY) 4).map U64)) : Calls Tryz.prog 56 [EV2 x, .func (.func 126) #[] #[.pointer (some ⟨bb, 0, none⟩)]].toArray w (fun r w' => r = .returned (.tuple #[EV2 (R2.pev iYN x), EV2 (R2.pev iYD x)]) ∧ Grow w w') := by
  have e := frac_calls x oY uY bb w hw (fun w' hg => range_grow hg h)
  rw [oY_h, uY_h] at e
  exact e
theorem mul_x {x y : W2} (h : ml2 y y = gO x) : Pure Tryz.prog Gt 34 [EV2 (ml2 (R2.pev iXN x) (R2.pev iYD x)), EV2 (iv2 (ml2 (R2.pev iXD x) (R2.pev iYD x)))] (EV2 (XIs x)) := by
  have e := e2mul (ml2 (R2.pev iXN x) (R2.pev iYD x)) (iv2 (ml2 (R2.pev iXD x) (R2.pev iYD x)))
  rw [xi_eq (xd_ne h) (yd_ne h)] at e
  exact e
theorem mul_y {x y : W2} (h : ml2 y y = gO x) : Pure Tryz.prog Gt 34 [EV2 (ml2 (ml2 y (R2.pev iYN x)) (R2.pev iXD x)), EV2 (iv2 (ml2 (R2.pev iXD x) (R2.pev iYD x)))] (EV2 (YIs x y)) := by
  have e := e2mul (ml2 (ml2 y (R2.pev iYN x)) (R2.pev iXD x)) (iv2 (ml2 (R2.pev iXD x) (R2.pev iYD x)))
  rw [yi_eq (xd_ne h) (yd_ne h)] at e
  exact e
theorem both_ne {x y : W2} (h : ml2 y y = gO x) : ¬ ml2 (R2.pev iXD x) (R2.pev iYD x) = ze2 := fun e => (ml2_zero e).elim (xd_ne h) (yd_ne h)
/-- The point that a point of the other curve is carried to. -/
def gIso (x y : W2) (h : ml2 y y = gO x) : GP := gAff (XIs x) (YIs x y) (E1_rs.1 (iso_at h))
theorem piso (x y : W2) (h : ml2 y y = gO x) : Pure Tryz.prog Gt 16 [EV2 x, EV2 y] (PtV (gIso x y h)) := by
  intro w hw
  have hGF : BOk Gt (pl w) := gt_low.plain hw
  refine calls_of_X (G := Gt) Tryz.func16 rfl rfl (Hp (pl w) []) (hp_refl (pl w) trivial rides_true) (good_hp hGF) ?_
  refine xs_plain (E := EE []) ?_
  refine lx_boxr 2 hGF rfl rfl rfl ?_
  intro b2
  refine lx_boxr 3 hGF rfl rfl rfl ?_
  intro b3
  refine lx_allocr 4 hGF zv46 rfl rfl ?_
  intro b4
  refine lx_nil ?_
  refine x_join (ι := Nat × Nat) (fun z => [(2, .pointer (some ⟨b2, 0, none⟩)), (3, .pointer (some ⟨b3, 0, none⟩)), (4, .pointer (some ⟨b4, 0, none⟩)), (5, .pointer (some ⟨z.1, 0, none⟩)), (6, .pointer (some ⟨z.2, 0, none⟩))]) (fun z => [(2, b2, (fe (x).1 ++ fe (x).2).map U64, 29), (3, b3, (fe (y).1 ++ fe (y).2).map U64, 29), (4, b4, (GL gInf).map U64, 46), (5, z.1, (fe (R2.pev iXN x).1 ++ fe (R2.pev iXN x).2).map U64, 29), (6, z.2, (fe (R2.pev iXD x).1 ++ fe (R2.pev iXD x).2).map U64, 29)]) hGF ?_ ?_
  · skip
    refine x_tree (EE [57, 2000057, 2999999]) mixed (by kernel_rfl) (by kernel_rfl) ?_
    refine tr_pre (m := 9) [0] (by kernel_rfl) ?_
    refine lx_loada 2 rfl rfl Tryz.isAgg29 Tryz.sizeOf29 (by simp) rfl rfl ?_
    refine lx_nil ?_
    refine tr_any (m := 8) [1, 6, 7] (by kernel_rfl) (by kernel_rfl) (by decide) ?_
    intro i hi
    simp only [List.mem_cons, List.not_mem_nil, or_false] at hi
    rcases hi with rfl | rfl | rfl
    · skip
      refine lx_callG rfl rfl ent57 rfl rfl (fun w' hw' => (ofX_calls w' (hGF.g _ _ _ hw')).mono fun e' w'' h => ?_)
      obtain ⟨c1, rfl, hg, h1, ho⟩ := h
      refine ⟨_, _, rfl, good_hp hGF, hw'.news rides_true hg [(33, c1, (RW 24 (R24 oX uX) 4).map U64, 112)] ?_ inj_one, hp_fresh rides_true rfl, ?_⟩
      · intro n' b' c' t' hl
        rcases lkB_cons hl with ⟨_, e⟩ | ⟨_, hl⟩
        · cases e; exact ⟨h1, ho⟩
        · cases hl
      clear hw' hg h1 ho
      refine lx_nil ?_
      refine tr_pre (m := 4) [2, 3, 4, 5] (by kernel_rfl) ?_
      refine lx_callC rfl rfl ent56 (fun w' hC hG => frac_x x _ w' hG (hp_row (n := 33) rfl w' hC)) rfl rfl ?_
      refine lx_move rfl rfl rfl ?_
      refine lx_ext rfl rfl rfl rfl ?_
      refine lx_ext rfl rfl rfl rfl ?_
      refine lx_nil ?_
      refine tr_any (m := 3) [6, 7] (by kernel_rfl) (by kernel_rfl) (by decide) ?_
      intro i hi
      simp only [List.mem_cons, List.not_mem_nil, or_false] at hi
      rcases hi with rfl | rfl
      · skip
        refine lx_allocG 5 hGF zv29 rfl rfl rfl ?_
        intro b5
        refine lx_nil ?_
        refine tr_pre (m := 2) [7] (by kernel_rfl) ?_
        refine lx_allocG 6 hGF zv29 rfl rfl rfl ?_
        intro b6
        refine lx_nil ?_
        refine tr_pre (m := 1) [8] (by kernel_rfl) ?_
        refine lx_storea 5 hGF rfl rfl rfl Tryz.sizeOf29 (by simp) (by simp) (one_u64 _) rfl ?_
        refine lx_nil ?_
        refine tr_pre (m := 0) [9] (by kernel_rfl) ?_
        refine lx_storea 6 hGF rfl rfl rfl Tryz.sizeOf29 (by simp) (by simp) (one_u64 _) rfl ?_
        refine lx_nil ?_
        refine tr_nil (by kernel_rfl) ?_
        refine kseq_n ?_
        exact ⟨rfl, (b5, b6), _, rfl, ⟨rfl, rfl, rfl, rfl, rfl, trivial⟩, ⟨rfl, rfl, rfl, rfl, rfl, trivial⟩⟩
      · skip
        refine lx_allocG 6 hGF zv29 rfl rfl rfl ?_
        intro b6
        refine lx_nil ?_
        refine tr_pre (m := 2) [6] (by kernel_rfl) ?_
        refine lx_allocG 5 hGF zv29 rfl rfl rfl ?_
        intro b5
        refine lx_nil ?_
        refine tr_pre (m := 1) [8] (by kernel_rfl) ?_
        refine lx_storea 5 hGF rfl rfl rfl Tryz.sizeOf29 (by simp) (by simp) (one_u64 _) rfl ?_
        refine lx_nil ?_
        refine tr_pre (m := 0) [9] (by kernel_rfl) ?_
        refine lx_storea 6 hGF rfl rfl rfl Tryz.sizeOf29 (by simp) (by simp) (one_u64 _) rfl ?_
        refine lx_nil ?_
        refine tr_nil (by kernel_rfl) ?_
        refine kseq_n ?_
        exact ⟨rfl, (b5, b6), _, rfl, ⟨rfl, rfl, rfl, rfl, rfl, trivial⟩, ⟨rfl, rfl, rfl, rfl, rfl, trivial⟩⟩
    · skip
      refine lx_allocG 5 hGF zv29 rfl rfl rfl ?_
      intro b5
      refine lx_nil ?_
      refine tr_any (m := 7) [1, 7] (by kernel_rfl) (by kernel_rfl) (by decide) ?_
      intro i hi
      simp only [List.mem_cons, List.not_mem_nil, or_false] at hi
      rcases hi with rfl | rfl
      · skip
        refine lx_callG rfl rfl ent57 rfl rfl (fun w' hw' => (ofX_calls w' (hGF.g _ _ _ hw')).mono fun e' w'' h => ?_)
        obtain ⟨c1, rfl, hg, h1, ho⟩ := h
        refine ⟨_, _, rfl, good_hp hGF, hw'.news rides_true hg [(33, c1, (RW 24 (R24 oX uX) 4).map U64, 112)] ?_ inj_one, hp_fresh rides_true rfl, ?_⟩
        · intro n' b' c' t' hl
          rcases lkB_cons hl with ⟨_, e⟩ | ⟨_, hl⟩
          · cases e; exact ⟨h1, ho⟩
          · cases hl
        clear hw' hg h1 ho
        refine lx_nil ?_
        refine tr_pre (m := 3) [2, 3, 4, 5] (by kernel_rfl) ?_
        refine lx_callC rfl rfl ent56 (fun w' hC hG => frac_x x _ w' hG (hp_row (n := 33) rfl w' hC)) rfl rfl ?_
        refine lx_move rfl rfl rfl ?_
        refine lx_ext rfl rfl rfl rfl ?_
        refine lx_ext rfl rfl rfl rfl ?_
        refine lx_nil ?_
        refine tr_pre (m := 2) [7] (by kernel_rfl) ?_
        refine lx_allocG 6 hGF zv29 rfl rfl rfl ?_
        intro b6
        refine lx_nil ?_
        refine tr_pre (m := 1) [8] (by kernel_rfl) ?_
        refine lx_storea 5 hGF rfl rfl rfl Tryz.sizeOf29 (by simp) (by simp) (one_u64 _) rfl ?_
        refine lx_nil ?_
        refine tr_pre (m := 0) [9] (by kernel_rfl) ?_
        refine lx_storea 6 hGF rfl rfl rfl Tryz.sizeOf29 (by simp) (by simp) (one_u64 _) rfl ?_
        refine lx_nil ?_
        refine tr_nil (by kernel_rfl) ?_
        refine kseq_n ?_
        exact ⟨rfl, (b5, b6), _, rfl, ⟨rfl, rfl, rfl, rfl, rfl, trivial⟩, ⟨rfl, rfl, rfl, rfl, rfl, trivial⟩⟩
      · skip
        refine lx_allocG 6 hGF zv29 rfl rfl rfl ?_
        intro b6
        refine lx_nil ?_
        refine tr_pre (m := 6) [1] (by kernel_rfl) ?_
        refine lx_callG rfl rfl ent57 rfl rfl (fun w' hw' => (ofX_calls w' (hGF.g _ _ _ hw')).mono fun e' w'' h => ?_)
        obtain ⟨c1, rfl, hg, h1, ho⟩ := h
        refine ⟨_, _, rfl, good_hp hGF, hw'.news rides_true hg [(33, c1, (RW 24 (R24 oX uX) 4).map U64, 112)] ?_ inj_one, hp_fresh rides_true rfl, ?_⟩
        · intro n' b' c' t' hl
          rcases lkB_cons hl with ⟨_, e⟩ | ⟨_, hl⟩
          · cases e; exact ⟨h1, ho⟩
          · cases hl
        clear hw' hg h1 ho
        refine lx_nil ?_
        refine tr_pre (m := 2) [2, 3, 4, 5] (by kernel_rfl) ?_
        refine lx_callC rfl rfl ent56 (fun w' hC hG => frac_x x _ w' hG (hp_row (n := 33) rfl w' hC)) rfl rfl ?_
        refine lx_move rfl rfl rfl ?_
        refine lx_ext rfl rfl rfl rfl ?_
        refine lx_ext rfl rfl rfl rfl ?_
        refine lx_nil ?_
        refine tr_pre (m := 1) [8] (by kernel_rfl) ?_
        refine lx_storea 5 hGF rfl rfl rfl Tryz.sizeOf29 (by simp) (by simp) (one_u64 _) rfl ?_
        refine lx_nil ?_
        refine tr_pre (m := 0) [9] (by kernel_rfl) ?_
        refine lx_storea 6 hGF rfl rfl rfl Tryz.sizeOf29 (by simp) (by simp) (one_u64 _) rfl ?_
        refine lx_nil ?_
        refine tr_nil (by kernel_rfl) ?_
        refine kseq_n ?_
        exact ⟨rfl, (b5, b6), _, rfl, ⟨rfl, rfl, rfl, rfl, rfl, trivial⟩, ⟨rfl, rfl, rfl, rfl, rfl, trivial⟩⟩
    · skip
      refine lx_allocG 6 hGF zv29 rfl rfl rfl ?_
      intro b6
      refine lx_nil ?_
      refine tr_any (m := 7) [1, 6] (by kernel_rfl) (by kernel_rfl) (by decide) ?_
      intro i hi
      simp only [List.mem_cons, List.not_mem_nil, or_false] at hi
      rcases hi with rfl | rfl
      · skip
        refine lx_callG rfl rfl ent57 rfl rfl (fun w' hw' => (ofX_calls w' (hGF.g _ _ _ hw')).mono fun e' w'' h => ?_)
        obtain ⟨c1, rfl, hg, h1, ho⟩ := h
        refine ⟨_, _, rfl, good_hp hGF, hw'.news rides_true hg [(33, c1, (RW 24 (R24 oX uX) 4).map U64, 112)] ?_ inj_one, hp_fresh rides_true rfl, ?_⟩
        · intro n' b' c' t' hl
          rcases lkB_cons hl with ⟨_, e⟩ | ⟨_, hl⟩
          · cases e; exact ⟨h1, ho⟩
          · cases hl
        clear hw' hg h1 ho
        refine lx_nil ?_
        refine tr_pre (m := 3) [2, 3, 4, 5] (by kernel_rfl) ?_
        refine lx_callC rfl rfl ent56 (fun w' hC hG => frac_x x _ w' hG (hp_row (n := 33) rfl w' hC)) rfl rfl ?_
        refine lx_move rfl rfl rfl ?_
        refine lx_ext rfl rfl rfl rfl ?_
        refine lx_ext rfl rfl rfl rfl ?_
        refine lx_nil ?_
        refine tr_pre (m := 2) [6] (by kernel_rfl) ?_
        refine lx_allocG 5 hGF zv29 rfl rfl rfl ?_
        intro b5
        refine lx_nil ?_
        refine tr_pre (m := 1) [8] (by kernel_rfl) ?_
        refine lx_storea 5 hGF rfl rfl rfl Tryz.sizeOf29 (by simp) (by simp) (one_u64 _) rfl ?_
        refine lx_nil ?_
        refine tr_pre (m := 0) [9] (by kernel_rfl) ?_
        refine lx_storea 6 hGF rfl rfl rfl Tryz.sizeOf29 (by simp) (by simp) (one_u64 _) rfl ?_
        refine lx_nil ?_
        refine tr_nil (by kernel_rfl) ?_
        refine kseq_n ?_
        exact ⟨rfl, (b5, b6), _, rfl, ⟨rfl, rfl, rfl, rfl, rfl, trivial⟩, ⟨rfl, rfl, rfl, rfl, rfl, trivial⟩⟩
      · skip
        refine lx_allocG 5 hGF zv29 rfl rfl rfl ?_
        intro b5
        refine lx_nil ?_
        refine tr_pre (m := 6) [1] (by kernel_rfl) ?_
        refine lx_callG rfl rfl ent57 rfl rfl (fun w' hw' => (ofX_calls w' (hGF.g _ _ _ hw')).mono fun e' w'' h => ?_)
        obtain ⟨c1, rfl, hg, h1, ho⟩ := h
        refine ⟨_, _, rfl, good_hp hGF, hw'.news rides_true hg [(33, c1, (RW 24 (R24 oX uX) 4).map U64, 112)] ?_ inj_one, hp_fresh rides_true rfl, ?_⟩
        · intro n' b' c' t' hl
          rcases lkB_cons hl with ⟨_, e⟩ | ⟨_, hl⟩
          · cases e; exact ⟨h1, ho⟩
          · cases hl
        clear hw' hg h1 ho
        refine lx_nil ?_
        refine tr_pre (m := 2) [2, 3, 4, 5] (by kernel_rfl) ?_
        refine lx_callC rfl rfl ent56 (fun w' hC hG => frac_x x _ w' hG (hp_row (n := 33) rfl w' hC)) rfl rfl ?_
        refine lx_move rfl rfl rfl ?_
        refine lx_ext rfl rfl rfl rfl ?_
        refine lx_ext rfl rfl rfl rfl ?_
        refine lx_nil ?_
        refine tr_pre (m := 1) [8] (by kernel_rfl) ?_
        refine lx_storea 5 hGF rfl rfl rfl Tryz.sizeOf29 (by simp) (by simp) (one_u64 _) rfl ?_
        refine lx_nil ?_
        refine tr_pre (m := 0) [9] (by kernel_rfl) ?_
        refine lx_storea 6 hGF rfl rfl rfl Tryz.sizeOf29 (by simp) (by simp) (one_u64 _) rfl ?_
        refine lx_nil ?_
        refine tr_nil (by kernel_rfl) ?_
        refine kseq_n ?_
        exact ⟨rfl, (b5, b6), _, rfl, ⟨rfl, rfl, rfl, rfl, rfl, trivial⟩, ⟨rfl, rfl, rfl, rfl, rfl, trivial⟩⟩
  · rintro ⟨b5, b6⟩
    dsimp only
    refine x_join (ι := Nat × Nat) (fun z => [(2, .pointer (some ⟨b2, 0, none⟩)), (3, .pointer (some ⟨b3, 0, none⟩)), (4, .pointer (some ⟨b4, 0, none⟩)), (5, .pointer (some ⟨b5, 0, none⟩)), (6, .pointer (some ⟨b6, 0, none⟩)), (7, .pointer (some ⟨z.1, 0, none⟩)), (8, .pointer (some ⟨z.2, 0, none⟩))]) (fun z => [(2, b2, (fe (x).1 ++ fe (x).2).map U64, 29), (3, b3, (fe (y).1 ++ fe (y).2).map U64, 29), (4, b4, (GL gInf).map U64, 46), (5, b5, (fe (R2.pev iXN x).1 ++ fe (R2.pev iXN x).2).map U64, 29), (6, b6, (fe (R2.pev iXD x).1 ++ fe (R2.pev iXD x).2).map U64, 29), (7, z.1, (fe (R2.pev iYN x).1 ++ fe (R2.pev iYN x).2).map U64, 29), (8, z.2, (fe (R2.pev iYD x).1 ++ fe (R2.pev iYD x).2).map U64, 29)]) hGF ?_ ?_
    · skip
      refine x_tree (EE [58, 2000058, 2999999]) mixed (by kernel_rfl) (by kernel_rfl) ?_
      refine tr_pre (m := 9) [0] (by kernel_rfl) ?_
      refine lx_loada 2 rfl rfl Tryz.isAgg29 Tryz.sizeOf29 (by simp) rfl rfl ?_
      refine lx_nil ?_
      refine tr_any (m := 8) [1, 6, 7] (by kernel_rfl) (by kernel_rfl) (by decide) ?_
      intro i hi
      simp only [List.mem_cons, List.not_mem_nil, or_false] at hi
      rcases hi with rfl | rfl | rfl
      · skip
        refine lx_callG rfl rfl ent58 rfl rfl (fun w' hw' => (ofY_calls w' (hGF.g _ _ _ hw')).mono fun e' w'' h => ?_)
        obtain ⟨c1, rfl, hg, h1, ho⟩ := h
        refine ⟨_, _, rfl, good_hp hGF, hw'.news rides_true hg [(33, c1, (RW 24 (R24 oY uY) 4).map U64, 112)] ?_ inj_one, hp_fresh rides_true rfl, ?_⟩
        · intro n' b' c' t' hl
          rcases lkB_cons hl with ⟨_, e⟩ | ⟨_, hl⟩
          · cases e; exact ⟨h1, ho⟩
          · cases hl
        clear hw' hg h1 ho
        refine lx_nil ?_
        refine tr_pre (m := 4) [2, 3, 4, 5] (by kernel_rfl) ?_
        refine lx_callC rfl rfl ent56 (fun w' hC hG => frac_y x _ w' hG (hp_row (n := 33) rfl w' hC)) rfl rfl ?_
        refine lx_move rfl rfl rfl ?_
        refine lx_ext rfl rfl rfl rfl ?_
        refine lx_ext rfl rfl rfl rfl ?_
        refine lx_nil ?_
        refine tr_any (m := 3) [6, 7] (by kernel_rfl) (by kernel_rfl) (by decide) ?_
        intro i hi
        simp only [List.mem_cons, List.not_mem_nil, or_false] at hi
        rcases hi with rfl | rfl
        · skip
          refine lx_allocG 7 hGF zv29 rfl rfl rfl ?_
          intro b7
          refine lx_nil ?_
          refine tr_pre (m := 2) [7] (by kernel_rfl) ?_
          refine lx_allocG 8 hGF zv29 rfl rfl rfl ?_
          intro b8
          refine lx_nil ?_
          refine tr_pre (m := 1) [8] (by kernel_rfl) ?_
          refine lx_storea 7 hGF rfl rfl rfl Tryz.sizeOf29 (by simp) (by simp) (one_u64 _) rfl ?_
          refine lx_nil ?_
          refine tr_pre (m := 0) [9] (by kernel_rfl) ?_
          refine lx_storea 8 hGF rfl rfl rfl Tryz.sizeOf29 (by simp) (by simp) (one_u64 _) rfl ?_
          refine lx_nil ?_
          refine tr_nil (by kernel_rfl) ?_
          refine kseq_n ?_
          exact ⟨rfl, (b7, b8), _, rfl, ⟨rfl, rfl, rfl, rfl, rfl, rfl, rfl, trivial⟩, ⟨rfl, rfl, rfl, rfl, rfl, rfl, rfl, trivial⟩⟩
        · skip
          refine lx_allocG 8 hGF zv29 rfl rfl rfl ?_
          intro b8
          refine lx_nil ?_
          refine tr_pre (m := 2) [6] (by kernel_rfl) ?_
          refine lx_allocG 7 hGF zv29 rfl rfl rfl ?_
          intro b7
          refine lx_nil ?_
          refine tr_pre (m := 1) [8] (by kernel_rfl) ?_
          refine lx_storea 7 hGF rfl rfl rfl Tryz.sizeOf29 (by simp) (by simp) (one_u64 _) rfl ?_
          refine lx_nil ?_
          refine tr_pre (m := 0) [9] (by kernel_rfl) ?_
          refine lx_storea 8 hGF rfl rfl rfl Tryz.sizeOf29 (by simp) (by simp) (one_u64 _) rfl ?_
          refine lx_nil ?_
          refine tr_nil (by kernel_rfl) ?_
          refine kseq_n ?_
          exact ⟨rfl, (b7, b8), _, rfl, ⟨rfl, rfl, rfl, rfl, rfl, rfl, rfl, trivial⟩, ⟨rfl, rfl, rfl, rfl, rfl, rfl, rfl, trivial⟩⟩
      · skip
        refine lx_allocG 7 hGF zv29 rfl rfl rfl ?_
        intro b7
        refine lx_nil ?_
        refine tr_any (m := 7) [1, 7] (by kernel_rfl) (by kernel_rfl) (by decide) ?_
        intro i hi
        simp only [List.mem_cons, List.not_mem_nil, or_false] at hi
        rcases hi with rfl | rfl
        · skip
          refine lx_callG rfl rfl ent58 rfl rfl (fun w' hw' => (ofY_calls w' (hGF.g _ _ _ hw')).mono fun e' w'' h => ?_)
          obtain ⟨c1, rfl, hg, h1, ho⟩ := h
          refine ⟨_, _, rfl, good_hp hGF, hw'.news rides_true hg [(33, c1, (RW 24 (R24 oY uY) 4).map U64, 112)] ?_ inj_one, hp_fresh rides_true rfl, ?_⟩
          · intro n' b' c' t' hl
            rcases lkB_cons hl with ⟨_, e⟩ | ⟨_, hl⟩
            · cases e; exact ⟨h1, ho⟩
            · cases hl
          clear hw' hg h1 ho
          refine lx_nil ?_
          refine tr_pre (m := 3) [2, 3, 4, 5] (by kernel_rfl) ?_
          refine lx_callC rfl rfl ent56 (fun w' hC hG => frac_y x _ w' hG (hp_row (n := 33) rfl w' hC)) rfl rfl ?_
          refine lx_move rfl rfl rfl ?_
          refine lx_ext rfl rfl rfl rfl ?_
          refine lx_ext rfl rfl rfl rfl ?_
          refine lx_nil ?_
          refine tr_pre (m := 2) [7] (by kernel_rfl) ?_
          refine lx_allocG 8 hGF zv29 rfl rfl rfl ?_
          intro b8
          refine lx_nil ?_
          refine tr_pre (m := 1) [8] (by kernel_rfl) ?_
          refine lx_storea 7 hGF rfl rfl rfl Tryz.sizeOf29 (by simp) (by simp) (one_u64 _) rfl ?_
          refine lx_nil ?_
          refine tr_pre (m := 0) [9] (by kernel_rfl) ?_
          refine lx_storea 8 hGF rfl rfl rfl Tryz.sizeOf29 (by simp) (by simp) (one_u64 _) rfl ?_
          refine lx_nil ?_
          refine tr_nil (by kernel_rfl) ?_
          refine kseq_n ?_
          exact ⟨rfl, (b7, b8), _, rfl, ⟨rfl, rfl, rfl, rfl, rfl, rfl, rfl, trivial⟩, ⟨rfl, rfl, rfl, rfl, rfl, rfl, rfl, trivial⟩⟩
        · skip
          refine lx_allocG 8 hGF zv29 rfl rfl rfl ?_
          intro b8
          refine lx_nil ?_
          refine tr_pre (m := 6) [1] (by kernel_rfl) ?_
          refine lx_callG rfl rfl ent58 rfl rfl (fun w' hw' => (ofY_calls w' (hGF.g _ _ _ hw')).mono fun e' w'' h => ?_)
          obtain ⟨c1, rfl, hg, h1, ho⟩ := h
          refine ⟨_, _, rfl, good_hp hGF, hw'.news rides_true hg [(33, c1, (RW 24 (R24 oY uY) 4).map U64, 112)] ?_ inj_one, hp_fresh rides_true rfl, ?_⟩
          · intro n' b' c' t' hl
            rcases lkB_cons hl with ⟨_, e⟩ | ⟨_, hl⟩
            · cases e; exact ⟨h1, ho⟩
            · cases hl
          clear hw' hg h1 ho
          refine lx_nil ?_
          refine tr_pre (m := 2) [2, 3, 4, 5] (by kernel_rfl) ?_
          refine lx_callC rfl rfl ent56 (fun w' hC hG => frac_y x _ w' hG (hp_row (n := 33) rfl w' hC)) rfl rfl ?_
          refine lx_move rfl rfl rfl ?_
          refine lx_ext rfl rfl rfl rfl ?_
          refine lx_ext rfl rfl rfl rfl ?_
          refine lx_nil ?_
          refine tr_pre (m := 1) [8] (by kernel_rfl) ?_
          refine lx_storea 7 hGF rfl rfl rfl Tryz.sizeOf29 (by simp) (by simp) (one_u64 _) rfl ?_
          refine lx_nil ?_
          refine tr_pre (m := 0) [9] (by kernel_rfl) ?_
          refine lx_storea 8 hGF rfl rfl rfl Tryz.sizeOf29 (by simp) (by simp) (one_u64 _) rfl ?_
          refine lx_nil ?_
          refine tr_nil (by kernel_rfl) ?_
          refine kseq_n ?_
          exact ⟨rfl, (b7, b8), _, rfl, ⟨rfl, rfl, rfl, rfl, rfl, rfl, rfl, trivial⟩, ⟨rfl, rfl, rfl, rfl, rfl, rfl, rfl, trivial⟩⟩
      · skip
        refine lx_allocG 8 hGF zv29 rfl rfl rfl ?_
        intro b8
        refine lx_nil ?_
        refine tr_any (m := 7) [1, 6] (by kernel_rfl) (by kernel_rfl) (by decide) ?_
        intro i hi
        simp only [List.mem_cons, List.not_mem_nil, or_false] at hi
        rcases hi with rfl | rfl
        · skip
          refine lx_callG rfl rfl ent58 rfl rfl (fun w' hw' => (ofY_calls w' (hGF.g _ _ _ hw')).mono fun e' w'' h => ?_)
          obtain ⟨c1, rfl, hg, h1, ho⟩ := h
          refine ⟨_, _, rfl, good_hp hGF, hw'.news rides_true hg [(33, c1, (RW 24 (R24 oY uY) 4).map U64, 112)] ?_ inj_one, hp_fresh rides_true rfl, ?_⟩
          · intro n' b' c' t' hl
            rcases lkB_cons hl with ⟨_, e⟩ | ⟨_, hl⟩
            · cases e; exact ⟨h1, ho⟩
            · cases hl
          clear hw' hg h1 ho
          refine lx_nil ?_
          refine tr_pre (m := 3) [2, 3, 4, 5] (by kernel_rfl) ?_
          refine lx_callC rfl rfl ent56 (fun w' hC hG => frac_y x _ w' hG (hp_row (n := 33) rfl w' hC)) rfl rfl ?_
          refine lx_move rfl rfl rfl ?_
          refine lx_ext rfl rfl rfl rfl ?_
          refine lx_ext rfl rfl rfl rfl ?_
          refine lx_nil ?_
          refine tr_pre (m := 2) [6] (by kernel_rfl) ?_
          refine lx_allocG 7 hGF zv29 rfl rfl rfl ?_
          intro b7
          refine lx_nil ?_
          refine tr_pre (m := 1) [8] (by kernel_rfl) ?_
          refine lx_storea 7 hGF rfl rfl rfl Tryz.sizeOf29 (by simp) (by simp) (one_u64 _) rfl ?_
          refine lx_nil ?_
          refine tr_pre (m := 0) [9] (by kernel_rfl) ?_
          refine lx_storea 8 hGF rfl rfl rfl Tryz.sizeOf29 (by simp) (by simp) (one_u64 _) rfl ?_
          refine lx_nil ?_
          refine tr_nil (by kernel_rfl) ?_
          refine kseq_n ?_
          exact ⟨rfl, (b7, b8), _, rfl, ⟨rfl, rfl, rfl, rfl, rfl, rfl, rfl, trivial⟩, ⟨rfl, rfl, rfl, rfl, rfl, rfl, rfl, trivial⟩⟩
        · skip
          refine lx_allocG 7 hGF zv29 rfl rfl rfl ?_
          intro b7
          refine lx_nil ?_
          refine tr_pre (m := 6) [1] (by kernel_rfl) ?_
          refine lx_callG rfl rfl ent58 rfl rfl (fun w' hw' => (ofY_calls w' (hGF.g _ _ _ hw')).mono fun e' w'' h => ?_)
          obtain ⟨c1, rfl, hg, h1, ho⟩ := h
          refine ⟨_, _, rfl, good_hp hGF, hw'.news rides_true hg [(33, c1, (RW 24 (R24 oY uY) 4).map U64, 112)] ?_ inj_one, hp_fresh rides_true rfl, ?_⟩
          · intro n' b' c' t' hl
            rcases lkB_cons hl with ⟨_, e⟩ | ⟨_, hl⟩
            · cases e; exact ⟨h1, ho⟩
            · cases hl
          clear hw' hg h1 ho
          refine lx_nil ?_
          refine tr_pre (m := 2) [2, 3, 4, 5] (by kernel_rfl) ?_
          refine lx_callC rfl rfl ent56 (fun w' hC hG => frac_y x _ w' hG (hp_row (n := 33) rfl w' hC)) rfl rfl ?_
          refine lx_move rfl rfl rfl ?_
          refine lx_ext rfl rfl rfl rfl ?_
          refine lx_ext rfl rfl rfl rfl ?_
          refine lx_nil ?_
          refine tr_pre (m := 1) [8] (by kernel_rfl) ?_
          refine lx_storea 7 hGF rfl rfl rfl Tryz.sizeOf29 (by simp) (by simp) (one_u64 _) rfl ?_
          refine lx_nil ?_
          refine tr_pre (m := 0) [9] (by kernel_rfl) ?_
          refine lx_storea 8 hGF rfl rfl rfl Tryz.sizeOf29 (by simp) (by simp) (one_u64 _) rfl ?_
          refine lx_nil ?_
          refine tr_nil (by kernel_rfl) ?_
          refine kseq_n ?_
          exact ⟨rfl, (b7, b8), _, rfl, ⟨rfl, rfl, rfl, rfl, rfl, rfl, rfl, trivial⟩, ⟨rfl, rfl, rfl, rfl, rfl, rfl, rfl, trivial⟩⟩
    · rintro ⟨b7, b8⟩
      dsimp only
      refine xs_plain (E := EE []) ?_
      refine lx_loada 6 rfl rfl Tryz.isAgg29 Tryz.sizeOf29 (by simp) rfl rfl ?_
      refine lx_loada 8 rfl rfl Tryz.isAgg29 Tryz.sizeOf29 (by simp) rfl rfl ?_
      refine lx_call rfl rfl ent34 (e2mul _ _) rfl rfl ?_
      refine lx_allocr 9 hGF zv29 rfl rfl ?_
      intro b9
      refine lx_storea 9 hGF rfl rfl rfl Tryz.sizeOf29 (by simp) (by simp) (one_u64 _) rfl ?_
      refine lx_nil ?_
      refine x_seq ?_
      refine xs_plain (E := EE []) ?_
      refine lx_loada 9 rfl rfl Tryz.isAgg29 Tryz.sizeOf29 (by simp) rfl rfl ?_
      refine lx_callB false rfl rfl ent13 (e2isZero _) (decide_eq_false (both_ne h)) rfl rfl ?_
      refine lx_nil ?_
      refine x_false rfl ?_
      refine x_skip ?_
      refine xs_plain (E := EE []) ?_
      refine lx_loada 9 rfl rfl Tryz.isAgg29 Tryz.sizeOf29 (by simp) rfl rfl ?_
      refine lx_call rfl rfl ent31 (e2inv _) rfl rfl ?_
      refine lx_allocr 10 hGF zv29 rfl rfl ?_
      intro b10
      refine lx_storea 10 hGF rfl rfl rfl Tryz.sizeOf29 (by simp) (by simp) (one_u64 _) rfl ?_
      refine lx_nil ?_
      refine xs_drawA (E := EE [2999999]) [0, 1, 2, 3, 4, 5, 6, 7, 8, 9, 10, 11, 12, 13, 14, 15] [⟨16, 11, 46, (GL gInf).map U64⟩] [17, 18] mixed rfl (by kernel_rfl) (by kernel_rfl) (by kernel_rfl) (by kernel_rfl) (by kernel_rfl) (by kernel_rfl) (by decide) (by intro x hx; simp only [List.mem_cons, List.not_mem_nil, or_false] at hx; subst hx; exact isAlloc_mk rfl zv46 rfl) ?_
      refine lx_loada 5 rfl rfl Tryz.isAgg29 Tryz.sizeOf29 (by simp) rfl rfl ?_
      refine lx_loada 8 rfl rfl Tryz.isAgg29 Tryz.sizeOf29 (by simp) rfl rfl ?_
      refine lx_call rfl rfl ent34 (e2mul _ _) rfl rfl ?_
      refine lx_loada 10 rfl rfl Tryz.isAgg29 Tryz.sizeOf29 (by simp) rfl rfl ?_
      refine lx_call rfl rfl ent34 (mul_x h) rfl rfl ?_
      refine lx_loada 3 rfl rfl Tryz.isAgg29 Tryz.sizeOf29 (by simp) rfl rfl ?_
      refine lx_loada 7 rfl rfl Tryz.isAgg29 Tryz.sizeOf29 (by simp) rfl rfl ?_
      refine lx_call rfl rfl ent34 (e2mul _ _) rfl rfl ?_
      refine lx_loada 6 rfl rfl Tryz.isAgg29 Tryz.sizeOf29 (by simp) rfl rfl ?_
      refine lx_call rfl rfl ent34 (e2mul _ _) rfl rfl ?_
      refine lx_loada 10 rfl rfl Tryz.isAgg29 Tryz.sizeOf29 (by simp) rfl rfl ?_
      refine lx_call rfl rfl ent34 (mul_y h) rfl rfl ?_
      refine lx_call rfl rfl ent60 (aff_y _ _ (E1_rs.1 (iso_at h))) rfl rfl ?_
      refine lx_move rfl rfl rfl ?_
      refine lx_ext rfl rfl rfl rfl ?_
      refine lx_ext rfl rfl rfl rfl ?_
      refine lx_nil ?_
      refine ⟨_, _, rfl, hGF, by intro x hx; simp only [List.mem_cons, List.not_mem_nil, or_false] at hx; subst hx; rfl, by intro x hx; simp only [List.mem_cons, List.not_mem_nil, or_false] at hx; subst hx; rfl, fun adr7 => ?_⟩
      refine lx_storea 11 hGF rfl rfl rfl Tryz.sizeOf46 (by simp) (by simp) (one_u64 _) rfl ?_
      refine lx_assign rfl rfl rfl ?_
      refine lx_nil ?_
      refine xs_plain (E := EE []) ?_
      refine lx_loada 11 rfl rfl Tryz.isAgg46 Tryz.sizeOf46 (by simp) rfl rfl ?_
      refine lx_storea 4 hGF rfl rfl rfl Tryz.sizeOf46 (by simp) (by simp) (one_u64 _) rfl ?_
      refine lx_nil ?_
      refine x_ret ?_
      repeat (first | refine kseq_ret ?_ | refine kblk_ret ?_)
      exact kret_own 4 rfl rfl rfl Tryz.isAgg46 Tryz.sizeOf46 (by simp) (fun w hw => ⟨rfl, hp_below hw⟩)
theorem pmap {u x r : W2} (h : SwR u x r) : Pure Tryz.prog Gt 24 [EV2 u] (PtV (gIso x (sgS r u) h.on)) := by
  intro w hw
  have hGF : BOk Gt (pl w) := gt_low.plain hw
  refine calls_of_X (G := Gt) Tryz.func24 rfl rfl (Hp (pl w) []) (hp_refl (pl w) trivial rides_true) (good_hp hGF) ?_
  refine xs_plain (E := EE []) ?_
  refine lx_boxr 1 hGF rfl rfl rfl ?_
  intro b1
  refine lx_allocr 2 hGF zv46 rfl rfl ?_
  intro b2
  refine lx_nil ?_
  refine xs_plain (E := EE []) ?_
  refine lx_loada 1 rfl rfl Tryz.isAgg29 Tryz.sizeOf29 (by simp) rfl rfl ?_
  refine lx_call rfl rfl ent8 (pswu h) rfl rfl ?_
  refine lx_ext rfl rfl rfl rfl ?_
  refine lx_ext rfl rfl rfl rfl ?_
  refine lx_call rfl rfl ent16 (piso _ _ h.on) rfl rfl ?_
  refine lx_storea 2 hGF rfl rfl rfl Tryz.sizeOf46 (by simp) (by simp) (one_u64 _) rfl ?_
  refine lx_nil ?_
  refine x_ret ?_
  repeat (first | refine kseq_ret ?_ | refine kblk_ret ?_)
  exact kret_own 2 rfl rfl rfl Tryz.isAgg46 Tryz.sizeOf46 (by simp) (fun w hw => ⟨rfl, hp_below hw⟩)
end Go.Proofs.YtdkmalaffcfoeaaGreatDoor

namespace Go.Proofs.YtdkmalaffcfoeaaGreatDoor
open Go.RowKit
set_option maxRecDepth 100000
set_option maxHeartbeats 1000000
attribute [local simp] fe_len nm_len AS_len SS_len MONT_len RM_len FRs_len BYs_len by48_len PLl TWOl ONEl N1l IVPl HFPl RTPl FL_len SP_len fe2_len SP2_len FM_len GL_len RW_len RPr_len R24_len

theorem ent18 : Enters Tryz.prog 18 := fun _ _ => by kernel_rfl
theorem RJ_s {P : Pt W2} (h : ¬ P = none) : RJ2 P = (PX P, PY P, on2) := by
  cases P with
  | none => exact absurd rfl h
  | some p => rfl
theorem eq_dec {J K : W6} {P Q : Pt W2} (hP : E2w.onP P) (hQ : E2w.onP Q) (hJ : E2w.jr J P) (hK : E2w.jr K Q) : decide ((E2w.jaF J (K.1, ng2 K.2.1, K.2.2)).2.2 = ze2) = decide (P = Q) := by
  have h := E2w.jr_a hP (E2w.ne_on hQ) hJ (E2w.jr_n hK)
  exact decide_eq_decide.2 ((E2w.jr_z h).trans (E2w.ad_ne_iff hP hQ))
theorem same_t {K : W6} {P : Pt W2} (hP : E2w.onP P) (hK : E2w.jr K P) : decide ((E2w.jaF (RJ2 P) (K.1, ng2 K.2.1, K.2.2)).2.2 = ze2) = true := (eq_dec hP hP (RJ2_jr P) hK).trans (decide_eq_true rfl)
theorem rfromE (x : Zp) (b : Nat) (t : TypeId) (w : World) (hw : Gt w) (ho : OwnB w b ((by48 x).map U8) t) :
    Calls Tryz.prog 96 [.slice (some ⟨b, 0, none⟩) 48 48].toArray w (fun r w' => r = .returned (.tuple #[NV (nm x), .bool true]) ∧ Grow w w') := by
  have h := rfrom48 b t (by48 x) (by48_len x) w hw ho
  rw [FRs_by48] at h
  exact h
theorem part14 (x : Zp) : Pure Tryz.prog Gt 48 [EV x] (EV x) := by
  intro w hw
  have hGF : BOk Gt (pl w) := gt_low.plain hw
  refine calls_of_X (G := Gt) Tryz.func48 rfl rfl (Hp (pl w) []) (hp_refl (pl w) trivial rides_true) (good_hp hGF) ?_
  refine xs_plain (E := EE []) ?_
  refine lx_boxr 1 hGF rfl rfl rfl ?_
  intro b1
  refine lx_allocr 2 hGF zv35 rfl rfl ?_
  intro b2
  refine lx_nil ?_
  refine xs_plain (E := EE []) ?_
  refine lx_loada 1 rfl rfl Tryz.isAgg27 Tryz.sizeOf27 (by simp) rfl rfl ?_
  refine lx_call rfl rfl ent95 (fbytes_pure _) rfl rfl ?_
  refine lx_allocr 3 hGF zv98 rfl rfl ?_
  intro b3
  refine lx_storea 3 hGF rfl rfl rfl Tryz.sizeOf98 (by simp) (by simp) (one_u8 _) rfl ?_
  refine lx_nil ?_
  refine xs_plain (E := EE []) ?_
  refine lx_slarr1 (l := 0) (h' := 48) rfl Tryz.underlying98 Tryz.sizeOf5 rfl rfl (by omega) (by omega) rfl rfl ?_
  refine lx_callC rfl rfl ent96 (fun w' hC hG => rfromE x _ _ w' hG (hC.own 3 _ _ _ rfl).1) rfl rfl ?_
  refine lx_move rfl rfl rfl ?_
  refine lx_ext rfl rfl rfl rfl ?_
  refine lx_ext rfl rfl rfl rfl ?_
  refine lx_allocr 4 hGF zv33 rfl rfl ?_
  intro b4
  refine lx_storea 4 hGF rfl rfl rfl Tryz.sizeOf33 (by simp) (by simp) (one_u64 _) rfl ?_
  refine lx_assign rfl rfl rfl ?_
  refine lx_nil ?_
  refine xs_plain (E := EE []) ?_
  refine lx_loada 4 rfl rfl Tryz.isAgg33 Tryz.sizeOf33 (by simp) rfl rfl ?_
  refine lx_call rfl rfl ent97 (rofE _) rfl rfl ?_
  refine lx_storea 2 hGF rfl rfl rfl Tryz.sizeOf35 (by simp) (by simp) (one_u64 _) rfl ?_
  refine lx_nil ?_
  refine x_ret ?_
  repeat (first | refine kseq_ret ?_ | refine kblk_ret ?_)
  exact kret_own 2 rfl rfl rfl Tryz.isAgg35 Tryz.sizeOf35 (by simp) (fun w hw => ⟨rfl, hp_below hw⟩)
theorem ref14 (x : W2) : Pure Tryz.prog Gt 10 [EV2 x] (EV2 x) := by
  intro w hw
  have hGF : BOk Gt (pl w) := gt_low.plain hw
  refine calls_of_X (G := Gt) Tryz.func10 rfl rfl (Hp (pl w) []) (hp_refl (pl w) trivial rides_true) (good_hp hGF) ?_
  refine xs_plain (E := EE []) ?_
  refine lx_boxr 1 hGF rfl rfl rfl ?_
  intro b1
  refine lx_allocr 2 hGF zv37 rfl rfl ?_
  intro b2
  refine lx_nil ?_
  refine xs_drawn (E := EE []) mixed (by kernel_rfl) (by kernel_rfl) (by kernel_rfl) ?_
  refine lx_fak 0 rfl Tryz.underlying29 rfl Tryz.sizeOf27 (by decide) rfl rfl rfl ?_
  refine lx_loado 1 _ rfl rfl Tryz.isAgg27 Tryz.sizeOf27 (by simp) ld_l rfl rfl ?_
  refine lx_call rfl rfl ent48 (part14 _) rfl rfl ?_
  refine lx_fak 6 rfl Tryz.underlying29 rfl Tryz.sizeOf27 (by decide) rfl rfl rfl ?_
  refine lx_loado 1 _ rfl rfl Tryz.isAgg27 Tryz.sizeOf27 (by simp) (ld_r (by simp)) rfl rfl ?_
  refine lx_call rfl rfl ent48 (part14 _) rfl rfl ?_
  refine lx_two two37 rfl rfl (by simp) (by simp) rfl rfl ?_
  refine lx_storea 2 hGF rfl rfl rfl Tryz.sizeOf37 (by simp) (by simp) (one_u64 _) rfl ?_
  refine lx_nil ?_
  refine x_ret ?_
  repeat (first | refine kseq_ret ?_ | refine kblk_ret ?_)
  exact kret_own 2 rfl rfl rfl Tryz.isAgg37 Tryz.sizeOf37 (by simp) (fun w hw => ⟨rfl, hp_below hw⟩)
theorem wide_cut (e : Option Addr) (cap : Nat) (bs : List (BitVec 8)) (l k len c' : Nat) (hk : len = k) (hl : l + k ≤ bs.length) (hc' : len ≤ c') (hcap : bs.length ≤ cap) (hlen : bs.length ≤ 1000) (w : World) (hw : Gt w) (hby : BytesAt w e bs) :
    Calls Tryz.prog 29 [.slice (if cap = l then e else e.map (·.add (l * 1))) len c'].toArray w (fun r w' => r = .returned (EV (ZB ((bs.drop l).take k))) ∧ Grow w w') := by
  subst hk
  have hL : ((bs.drop l).take len).length = len := by rw [List.length_take, List.length_drop]; omega
  have h := fwide_calls (if cap = l then e else e.map (·.add (l * 1))) c' ((bs.drop l).take len) (by omega) (by omega) w hw (hby.cut l len hcap)
  rw [hL] at h
  exact h
/-- The element of bytes. -/
def NUM (bs : List (BitVec 8)) : W2 := (ZB ((bs.drop 0).take (bs.length / 2)), ZB ((bs.drop (bs.length / 2)).take (bs.length - bs.length / 2)))
theorem refs14 (p : GP) : Pure Tryz.prog Gt 18 [PtV p] (EV6 (RJ2 p.P)) := by
  intro w hw
  have hGF : BOk Gt (pl w) := gt_low.plain hw
  by_cases h : p.P = none
  · skip
    rw [h]
    refine calls_of_X (G := Gt) Tryz.func18 rfl rfl (Hp (pl w) []) (hp_refl (pl w) trivial rides_true) (good_hp hGF) ?_
    refine xs_plain (E := EE []) ?_
    refine lx_boxr 1 hGF rfl rfl rfl ?_
    intro b1
    refine lx_allocr 2 hGF zv51 rfl rfl ?_
    intro b2
    refine lx_nil ?_
    refine xs_plain (E := EE []) ?_
    refine lx_loada 1 rfl rfl Tryz.isAgg46 Tryz.sizeOf46 (by simp) rfl rfl ?_
    refine lx_call rfl rfl ent17 (xy_n p h) rfl rfl ?_
    refine lx_move rfl rfl rfl ?_
    refine lx_ext rfl rfl rfl rfl ?_
    refine lx_ext rfl rfl rfl rfl ?_
    refine lx_ext rfl rfl rfl rfl ?_
    refine lx_allocr 3 hGF zv29 rfl rfl ?_
    intro b3
    refine lx_allocr 4 hGF zv29 rfl rfl ?_
    intro b4
    refine lx_storea 3 hGF rfl rfl rfl Tryz.sizeOf29 (by simp) (by simp) (one_u64 _) rfl ?_
    refine lx_storea 4 hGF rfl rfl rfl Tryz.sizeOf29 (by simp) (by simp) (one_u64 _) rfl ?_
    refine lx_assign rfl rfl rfl ?_
    refine lx_nil ?_
    refine x_seq ?_
    refine xs_plain (E := EE []) ?_
    refine lx_move rfl rfl rfl ?_
    refine lx_un rfl (fun _ => un_not _) rfl rfl ?_
    refine lx_nil ?_
    refine x_true rfl ?_
    refine xs_plain (E := EE []) ?_
    refine lx_threeN three51 rfl rfl ?_
    refine lx_storea 2 hGF rfl rfl rfl Tryz.sizeOf51 (by simp) (by simp) (one_u64 _) rfl ?_
    refine lx_nil ?_
    refine x_ret ?_
    repeat (first | refine kseq_ret ?_ | refine kblk_ret ?_)
    exact kret_own 2 rfl rfl rfl Tryz.isAgg51 Tryz.sizeOf51 (by simp) (fun w hw => ⟨rfl, hp_below hw⟩)
  · skip
    rw [RJ_s h]
    refine calls_of_X (G := Gt) Tryz.func18 rfl rfl (Hp (pl w) []) (hp_refl (pl w) trivial rides_true) (good_hp hGF) ?_
    refine xs_plain (E := EE []) ?_
    refine lx_boxr 1 hGF rfl rfl rfl ?_
    intro b1
    refine lx_allocr 2 hGF zv51 rfl rfl ?_
    intro b2
    refine lx_nil ?_
    refine xs_plain (E := EE []) ?_
    refine lx_loada 1 rfl rfl Tryz.isAgg46 Tryz.sizeOf46 (by simp) rfl rfl ?_
    refine lx_call rfl rfl ent17 (xy_s p h) rfl rfl ?_
    refine lx_move rfl rfl rfl ?_
    refine lx_ext rfl rfl rfl rfl ?_
    refine lx_ext rfl rfl rfl rfl ?_
    refine lx_ext rfl rfl rfl rfl ?_
    refine lx_allocr 3 hGF zv29 rfl rfl ?_
    intro b3
    refine lx_allocr 4 hGF zv29 rfl rfl ?_
    intro b4
    refine lx_storea 3 hGF rfl rfl rfl Tryz.sizeOf29 (by simp) (by simp) (one_u64 _) rfl ?_
    refine lx_storea 4 hGF rfl rfl rfl Tryz.sizeOf29 (by simp) (by simp) (one_u64 _) rfl ?_
    refine lx_assign rfl rfl rfl ?_
    refine lx_nil ?_
    refine x_seq ?_
    refine xs_plain (E := EE []) ?_
    refine lx_move rfl rfl rfl ?_
    refine lx_un rfl (fun _ => un_not _) rfl rfl ?_
    refine lx_nil ?_
    refine x_false rfl ?_
    refine x_skip ?_
    refine xs_drawn (E := EE []) mixed (by kernel_rfl) (by kernel_rfl) (by kernel_rfl) ?_
    refine lx_loada 3 rfl rfl Tryz.isAgg29 Tryz.sizeOf29 (by simp) rfl rfl ?_
    refine lx_call rfl rfl ent10 (ref14 _) rfl rfl ?_
    refine lx_loada 4 rfl rfl Tryz.isAgg29 Tryz.sizeOf29 (by simp) rfl rfl ?_
    refine lx_call rfl rfl ent10 (ref14 _) rfl rfl ?_
    refine lx_call rfl rfl ent61 (r9at _ _) rfl rfl ?_
    refine lx_storea 2 hGF rfl rfl rfl Tryz.sizeOf51 (by simp) (by simp) (one_u64 _) rfl ?_
    refine lx_nil ?_
    refine x_ret ?_
    repeat (first | refine kseq_ret ?_ | refine kblk_ret ?_)
    exact kret_own 2 rfl rfl rfl Tryz.isAgg51 Tryz.sizeOf51 (by simp) (fun w hw => ⟨rfl, hp_below hw⟩)
/-- The number of bytes and a kind. -/
def NUMK (bs : List (BitVec 8)) (k : Int) : W2 := if k.tmod 6 = 1 then ze2 else if k.tmod 6 = 2 then ((NUM bs).1, 0) else if k.tmod 6 = 3 then (0, (NUM bs).2) else if k.tmod 6 = 4 then iv2 (zp 2, zp 1) else NUM bs
section
variable {bs : List (BitVec 8)} {k : Int}
theorem NK1 (h : k.tmod 6 = 1) : NUMK bs k = ze2 := if_pos h
theorem NK2 (h : ¬ k.tmod 6 = 1) (h2 : k.tmod 6 = 2) : NUMK bs k = ((NUM bs).1, 0) := (if_neg h).trans (if_pos h2)
theorem NK3 (h : ¬ k.tmod 6 = 1) (h2 : ¬ k.tmod 6 = 2) (h3 : k.tmod 6 = 3) : NUMK bs k = (0, (NUM bs).2) := (if_neg h).trans ((if_neg h2).trans (if_pos h3))
theorem NK4 (h : ¬ k.tmod 6 = 1) (h2 : ¬ k.tmod 6 = 2) (h3 : ¬ k.tmod 6 = 3) (h4 : k.tmod 6 = 4) : NUMK bs k = iv2 (zp 2, zp 1) := (if_neg h).trans ((if_neg h2).trans ((if_neg h3).trans (if_pos h4)))
theorem NK5 (h : ¬ k.tmod 6 = 1) (h2 : ¬ k.tmod 6 = 2) (h3 : ¬ k.tmod 6 = 3) (h4 : ¬ k.tmod 6 = 4) : NUMK bs k = NUM bs := (if_neg h).trans ((if_neg h2).trans ((if_neg h3).trans (if_neg h4)))
end
theorem num_calls (e : Option Addr) (cap : Nat) (bs : List (BitVec 8)) (k : Int) (hlen : bs.length ≤ 1000) (hcap : bs.length ≤ cap) (w : World) (hw : Gt w) (hby : BytesAt w e bs) :
    Calls Tryz.prog 7 [.slice e bs.length cap, I k].toArray w (fun r w' => r = .returned (EV2 (NUMK bs k)) ∧ Grow w w') := by
  have hGF : BOk Gt (pl w) := gt_low.plain hw
  refine calls_of_X (G := Gt) Tryz.func7 rfl rfl (Hp (pl w) []) (hp_refl (pl w) trivial rides_true) (good_hp hGF) ?_
  refine xs_plain (E := EE []) ?_
  refine lx_allocr 4 hGF zv29 rfl rfl ?_
  intro b4
  refine lx_nil ?_
  refine xs_plain (E := EE []) ?_
  refine lx_move rfl rfl rfl ?_
  refine lx_len rfl (fun _ => len_slice Tryz.underlying22 _ _ _ _) rfl rfl ?_
  refine lx_bin (v := I ((bs.length / 2 : Nat) : Int)) rfl rfl (fun _ => rfl) (fun _ => bin_quo_i _ _ _ (by decide) (show inI ((bs.length / 2 : Nat) : Int) by unfold inI; omega)) rfl rfl ?_
  refine lx_assign rfl rfl rfl ?_
  refine lx_nil ?_
  refine xs_drawA (E := EE [2999999]) [0, 1, 2, 3, 4, 5, 6, 7, 8] [⟨9, 6, 29, (fe 0 ++ fe 0).map U64⟩] [10] mixed rfl (by kernel_rfl) (by kernel_rfl) (by kernel_rfl) (by kernel_rfl) (by kernel_rfl) (by kernel_rfl) (by decide) (by intro x hx; simp only [List.mem_cons, List.not_mem_nil, or_false] at hx; subst hx; exact isAlloc_mk rfl zv29 rfl) ?_
  refine lx_move rfl rfl rfl ?_
  refine lx_move rfl rfl rfl ?_
  refine lx_slsl (l := 0) (h' := bs.length / 2) rfl Tryz.underlying22 Tryz.sizeOf5 rfl rfl (by omega) rfl rfl ?_
  refine lx_callC rfl rfl ent29 (fun w' hC hG => wide_cut e cap bs 0 (bs.length / 2) _ _ rfl (by omega) (by omega) hcap hlen w' hG (hby.grow (hp_below hC))) rfl rfl ?_
  refine lx_move rfl rfl rfl ?_
  refine lx_move rfl rfl rfl ?_
  refine lx_slsl (l := bs.length / 2) (h' := bs.length) rfl Tryz.underlying22 Tryz.sizeOf5 rfl rfl (by omega) rfl rfl ?_
  refine lx_callC rfl rfl ent29 (fun w' hC hG => wide_cut e cap bs (bs.length / 2) (bs.length - bs.length / 2) _ _ rfl (by omega) (by omega) hcap hlen w' hG (hby.grow (hp_below hC))) rfl rfl ?_
  refine lx_two two29 rfl rfl (by simp) (by simp) rfl rfl ?_
  refine lx_nil ?_
  refine ⟨_, _, rfl, hGF, by intro x hx; simp only [List.mem_cons, List.not_mem_nil, or_false] at hx; subst hx; rfl, by intro x hx; simp only [List.mem_cons, List.not_mem_nil, or_false] at hx; subst hx; rfl, fun adr => ?_⟩
  refine lx_storea 6 hGF rfl rfl rfl Tryz.sizeOf29 (by simp) (by simp) (one_u64 _) rfl ?_
  refine lx_nil ?_
  refine x_seq ?_
  refine xs_plain (E := EE []) ?_
  refine lx_move rfl rfl rfl ?_
  refine lx_bin (v := I (k.tmod 6)) rfl rfl (fun _ => rfl) (fun _ => bin_rem_i _ _ _ (by decide)) rfl rfl ?_
  refine lx_nil ?_
  refine x_block ?_
  refine xs_plain (E := EE []) ?_
  refine lx_bin (v := .bool (k.tmod 6 == 1)) rfl rfl (fun _ => rfl) (fun _ => bin_eql_i _ _ _) rfl rfl ?_
  refine lx_assign rfl rfl rfl ?_
  refine lx_nil ?_
  refine x_if rfl (fun hc => ?_) (fun hc => ?_)
  · have h1 : k.tmod 6 = 1 := beq_iff_eq.1 hc
    refine xs_plain (E := EE []) ?_
    refine lx_two0 two29 rfl rfl ?_
    refine lx_storea 4 hGF rfl rfl rfl Tryz.sizeOf29 (by simp) (by simp) (one_u64 _) rfl ?_
    refine lx_nil ?_
    refine x_ret ?_
    repeat (first | refine kseq_ret ?_ | refine kblk_ret ?_)
    exact kret_own 4 rfl rfl rfl Tryz.isAgg29 Tryz.sizeOf29 (by simp) (fun w hw => ⟨by rw [NK1 h1, ze2], hp_below hw⟩)
  · have h1 : ¬ k.tmod 6 = 1 := beq_eq_false_iff_ne.1 hc
    refine xs_plain (E := EE []) ?_
    refine lx_bin (v := .bool (k.tmod 6 == 2)) rfl rfl (fun _ => rfl) (fun _ => bin_eql_i _ _ _) rfl rfl ?_
    refine lx_assign rfl rfl rfl ?_
    refine lx_nil ?_
    refine x_if rfl (fun hc => ?_) (fun hc => ?_)
    · have h2 : k.tmod 6 = 2 := beq_iff_eq.1 hc
      refine x_plain (E := EE []) ?_
      refine lx_builds zf27 Tryz.underlying27 (bm_one Tryz.sizeOf25) rfl rfl ?_
      refine lx_fak 6 rfl Tryz.underlying29 rfl Tryz.sizeOf27 (by decide) rfl rfl rfl ?_
      refine lx_storeo 6 _ hGF rfl rfl rfl Tryz.sizeOf27 (by simp) (one_u64 _) (by simp) (lay_r (by simp) (by simp)) rfl ?_
      refine lx_nil ?_
      refine xs_plain (E := EE []) ?_
      refine lx_loada 6 rfl rfl Tryz.isAgg29 Tryz.sizeOf29 (by simp) rfl rfl ?_
      refine lx_storea 4 hGF rfl rfl rfl Tryz.sizeOf29 (by simp) (by simp) (one_u64 _) rfl ?_
      refine lx_nil ?_
      refine x_ret ?_
      repeat (first | refine kseq_ret ?_ | refine kblk_ret ?_)
      exact kret_own 4 rfl rfl rfl Tryz.isAgg29 Tryz.sizeOf29 (by simp) (fun w hw => ⟨by rw [NK2 h1 h2, NUM], hp_below hw⟩)
    · have h2 : ¬ k.tmod 6 = 2 := beq_eq_false_iff_ne.1 hc
      refine xs_plain (E := EE []) ?_
      refine lx_bin (v := .bool (k.tmod 6 == 3)) rfl rfl (fun _ => rfl) (fun _ => bin_eql_i _ _ _) rfl rfl ?_
      refine lx_assign rfl rfl rfl ?_
      refine lx_nil ?_
      refine x_if rfl (fun hc => ?_) (fun hc => ?_)
      · have h3 : k.tmod 6 = 3 := beq_iff_eq.1 hc
        refine x_plain (E := EE []) ?_
        refine lx_builds zf27 Tryz.underlying27 (bm_one Tryz.sizeOf25) rfl rfl ?_
        refine lx_fak 0 rfl Tryz.underlying29 rfl Tryz.sizeOf27 (by decide) rfl rfl rfl ?_
        refine lx_storeo 6 _ hGF rfl rfl rfl Tryz.sizeOf27 (by simp) (one_u64 _) (by simp) (lay_l (by simp)) rfl ?_
        refine lx_nil ?_
        refine xs_plain (E := EE []) ?_
        refine lx_loada 6 rfl rfl Tryz.isAgg29 Tryz.sizeOf29 (by simp) rfl rfl ?_
        refine lx_storea 4 hGF rfl rfl rfl Tryz.sizeOf29 (by simp) (by simp) (one_u64 _) rfl ?_
        refine lx_nil ?_
        refine x_ret ?_
        repeat (first | refine kseq_ret ?_ | refine kblk_ret ?_)
        exact kret_own 4 rfl rfl rfl Tryz.isAgg29 Tryz.sizeOf29 (by simp) (fun w hw => ⟨by rw [NK3 h1 h2 h3, NUM], hp_below hw⟩)
      · have h3 : ¬ k.tmod 6 = 3 := beq_eq_false_iff_ne.1 hc
        refine xs_plain (E := EE []) ?_
        refine lx_bin (v := .bool (k.tmod 6 == 4)) rfl rfl (fun _ => rfl) (fun _ => bin_eql_i _ _ _) rfl rfl ?_
        refine lx_assign rfl rfl rfl ?_
        refine lx_nil ?_
        refine x_if rfl (fun hc => ?_) (fun hc => ?_)
        · have h4 : k.tmod 6 = 4 := beq_iff_eq.1 hc
          refine xs_plain (E := EE []) ?_
          refine lx_call rfl rfl ent30 (fof_pure _) rfl rfl ?_
          refine lx_call rfl rfl ent30 (fof_pure _) rfl rfl ?_
          refine lx_two two29 rfl rfl (by simp) (by simp) rfl rfl ?_
          refine lx_call rfl rfl ent31 (e2inv (zp 2, zp 1)) rfl rfl ?_
          refine lx_storea 6 hGF rfl rfl rfl Tryz.sizeOf29 (by simp) (by simp) (one_u64 _) rfl ?_
          refine lx_nil ?_
          refine xs_plain (E := EE []) ?_
          refine lx_loada 6 rfl rfl Tryz.isAgg29 Tryz.sizeOf29 (by simp) rfl rfl ?_
          refine lx_call rfl rfl ent32 (e2sqrtN _ noQ_21) rfl rfl ?_
          refine lx_move rfl rfl rfl ?_
          refine lx_ext rfl rfl rfl rfl ?_
          refine lx_ext rfl rfl rfl rfl ?_
          refine lx_allocr 7 hGF zv29 rfl rfl ?_
          intro b7
          refine lx_storea 7 hGF rfl rfl rfl Tryz.sizeOf29 (by simp) (by simp) (one_u64 _) rfl ?_
          refine lx_assign rfl rfl rfl ?_
          refine lx_nil ?_
          refine xs_plain (E := EE []) ?_
          refine lx_move rfl rfl rfl ?_
          refine lx_nil ?_
          refine x_false rfl ?_
          refine x_skip ?_
          refine xs_plain (E := EE []) ?_
          refine lx_loada 6 rfl rfl Tryz.isAgg29 Tryz.sizeOf29 (by simp) rfl rfl ?_
          refine lx_storea 4 hGF rfl rfl rfl Tryz.sizeOf29 (by simp) (by simp) (one_u64 _) rfl ?_
          refine lx_nil ?_
          refine x_ret ?_
          repeat (first | refine kseq_ret ?_ | refine kblk_ret ?_)
          exact kret_own 4 rfl rfl rfl Tryz.isAgg29 Tryz.sizeOf29 (by simp) (fun w hw => ⟨by rw [NK4 h1 h2 h3 h4], hp_below hw⟩)
        · have h4 : ¬ k.tmod 6 = 4 := beq_eq_false_iff_ne.1 hc
          refine x_skip ?_
          refine xs_plain (E := EE []) ?_
          refine lx_loada 6 rfl rfl Tryz.isAgg29 Tryz.sizeOf29 (by simp) rfl rfl ?_
          refine lx_storea 4 hGF rfl rfl rfl Tryz.sizeOf29 (by simp) (by simp) (one_u64 _) rfl ?_
          refine lx_nil ?_
          refine x_ret ?_
          repeat (first | refine kseq_ret ?_ | refine kblk_ret ?_)
          exact kret_own 4 rfl rfl rfl Tryz.isAgg29 Tryz.sizeOf29 (by simp) (fun w hw => ⟨by rw [NK5 h1 h2 h3 h4, NUM], hp_below hw⟩)
theorem num_u {u : W2} {bs : List (BitVec 8)} {k : Int} (hu : NUMK bs k = u) (e : Option Addr) (cap : Nat) (hlen : bs.length ≤ 1000) (hcap : bs.length ≤ cap) (w : World) (hw : Gt w) (hby : BytesAt w e bs) :
    Calls Tryz.prog 7 [.slice e bs.length cap, I k].toArray w (fun r w' => r = .returned (EV2 u) ∧ Grow w w') := by
  subst hu
  exact num_calls e cap bs k hlen hcap w hw hby
theorem eq2t {a b : W2} (h : a = b) : decide (fe a.1 ++ fe a.2 = fe b.1 ++ fe b.2) = true := by rw [fe2_dec]; exact decide_eq_true h
theorem iso_ne {x y : W2} (h : ml2 y y = gO x) : ¬ (gIso x y h).P = none := fun e => by cases e
theorem iso_P {x y : W2} (h : ml2 y y = gO x) : (gIso x y h).P = some (XIs x, YIs x y) := rfl
theorem riso_eq {x y : W2} (h : ml2 y y = gO x) : Pure Tryz.prog Gt 19 [EV6 (RJ2 (gIso x y h).P), EV6 (XIs x, YIs x y, on2)] (.bool true) := by
  rw [iso_P]
  have e := r9equal (RJ2 (some (XIs x, YIs x y))) (XIs x, YIs x y, on2)
  rw [same_t (P := some (XIs x, YIs x y)) (K := (XIs x, YIs x y, on2)) (onP_some (iso_at h)) (jr2_at (XIs x, YIs x y))] at e
  exact e
theorem pswu0 {x r : W2} (h : SwR ze2 x r) : Pure Tryz.prog Gt 8 [.agg ((fe 0 ++ fe 0).map U64).toArray] (.tuple #[EV2 x, EV2 (sgS r ze2)]) := by
  have e := pswu h
  rw [show EV2 ze2 = Value.agg ((fe 0 ++ fe 0).map U64).toArray by rw [ze2]] at e
  exact e
theorem iso_neg {x y z : W2} (h : ml2 y y = gO x) (h' : ml2 z z = gO x) (e : z = ng2 y) : (gIso x z h').P = (gNeg (gIso x y h)).P := by
  show (gIso x z h').P = E2w.ne (gIso x y h).P
  rw [iso_P, iso_P, e, yi_ng]
  rfl
theorem known14  : Pure Tryz.prog Gt 6 [] (.bool true) := by
  obtain ⟨x, r, h⟩ := swu_ex ze2
  obtain ⟨x1, r1, h1⟩ := swu_ex on2
  intro w hw
  have hGF : BOk Gt (pl w) := gt_low.plain hw
  refine calls_of_X (G := Gt) Tryz.func6 rfl rfl (Hp (pl w) []) (hp_refl (pl w) trivial rides_true) (good_hp hGF) ?_
  refine xs_plain (E := EE []) ?_
  refine lx_assign rfl rfl rfl ?_
  refine lx_nil ?_
  refine xs_plain (E := EE []) ?_
  refine lx_two0 two29 rfl rfl ?_
  refine lx_call rfl rfl ent8 (pswu0 h) rfl rfl ?_
  refine lx_move rfl rfl rfl ?_
  refine lx_ext rfl rfl rfl rfl ?_
  refine lx_ext rfl rfl rfl rfl ?_
  refine lx_allocr 1 hGF zv29 rfl rfl ?_
  intro b1
  refine lx_allocr 2 hGF zv29 rfl rfl ?_
  intro b2
  refine lx_storea 1 hGF rfl rfl rfl Tryz.sizeOf29 (by simp) (by simp) (one_u64 _) rfl ?_
  refine lx_storea 2 hGF rfl rfl rfl Tryz.sizeOf29 (by simp) (by simp) (one_u64 _) rfl ?_
  refine lx_nil ?_
  refine xs_plain (E := EE []) ?_
  refine lx_call rfl rfl ent25 (e2one) rfl rfl ?_
  refine lx_call rfl rfl ent24 (pmap h1) rfl rfl ?_
  refine lx_allocr 3 hGF zv46 rfl rfl ?_
  intro b3
  refine lx_storea 3 hGF rfl rfl rfl Tryz.sizeOf46 (by simp) (by simp) (one_u64 _) rfl ?_
  refine lx_nil ?_
  refine xs_drawnT (E := EE []) [(12, [1], []), (13, [11], [0]), (14, [12], [1]), (15, [13], [2, 1]), (16, [2, 14], [3]), (17, [15, 14], [4, 3, 3]), (18, [2, 14], [3]), (19, [17, 14], [6, 5, 3]), (20, [16, 18, 14], [5, 7, 7, 3]), (21, [1, 14], [3]), (22, [20, 14], [9, 8, 3]), (23, [21, 14], [10, 10, 3]), (24, [19, 22, 14], [8, 11, 3]), (25, [14, 23], [3, 12]), (26, [24], [13, 11]), (27, [3, 25], [14]), (28, [26, 25], [15, 14, 14]), (29, [27, 25], [16, 14]), (30, [25, 28], [14, 17]), (31, [29], [18, 16]), (32, [3, 30], [19]), (33, [31, 30], [20, 19, 19]), (34, [30], [21, 19]), (35, [33, 30], [22, 22, 19]), (36, [32, 34, 30], [21, 23, 23, 19]), (37, [30, 35], [19, 24]), (1, [36], [25, 24, 0, 1, 2, 3, 4, 5, 6, 7, 8, 9, 10, 11, 12, 13, 14, 15, 16, 17, 18, 19, 20, 21, 22, 23, 24, 25])] mixed (by kernel_rfl) (by kernel_rfl) (by kernel_rfl) (by kernel_rfl) (by kernel_rfl) ?_
  refine lx_loada 1 rfl rfl Tryz.isAgg29 Tryz.sizeOf29 (by simp) rfl rfl ?_
  refine lx_callB false rfl rfl ent13 (e2isZero _) (decide_eq_false h.ze) rfl rfl ?_
  refine lx_un rfl (fun _ => un_not _) rfl rfl ?_
  refine lx_move rfl rfl rfl ?_
  refine lx_loada 2 rfl rfl Tryz.isAgg29 Tryz.sizeOf29 (by simp) rfl rfl ?_
  refine lx_call rfl rfl ent10 (ref14 _) rfl rfl ?_
  refine lx_loada 2 rfl rfl Tryz.isAgg29 Tryz.sizeOf29 (by simp) rfl rfl ?_
  refine lx_call rfl rfl ent10 (ref14 _) rfl rfl ?_
  refine lx_call rfl rfl ent11 (r5mul _ _) rfl rfl ?_
  refine lx_loada 1 rfl rfl Tryz.isAgg29 Tryz.sizeOf29 (by simp) rfl rfl ?_
  refine lx_call rfl rfl ent10 (ref14 _) rfl rfl ?_
  refine lx_call rfl rfl ent12 (rG _) rfl rfl ?_
  refine lx_binB true rfl rfl (fun _ => eqg37 _ _ _ _ _ _) (fun w => eqv37 _ _ (by simp) (by simp) w) (eq2t h.on) rfl rfl ?_
  refine lx_pick rfl rfl rfl rfl rfl ?_
  refine lx_move rfl rfl rfl ?_
  refine lx_loada 3 rfl rfl Tryz.isAgg46 Tryz.sizeOf46 (by simp) rfl rfl ?_
  refine lx_callB false rfl rfl ent26 (isInf_p _) (decide_eq_false (iso_ne _)) rfl rfl ?_
  refine lx_un rfl (fun _ => un_not _) rfl rfl ?_
  refine lx_pick rfl rfl rfl rfl rfl ?_
  refine lx_move rfl rfl rfl ?_
  refine lx_loada 3 rfl rfl Tryz.isAgg46 Tryz.sizeOf46 (by simp) rfl rfl ?_
  refine lx_call rfl rfl ent18 (refs14 _) rfl rfl ?_
  refine lx_call rfl rfl ent28 (r5one) rfl rfl ?_
  refine lx_call rfl rfl ent27 (rmap h1) rfl rfl ?_
  refine lx_call rfl rfl ent19 (riso_eq h1.on) rfl rfl ?_
  refine lx_pick rfl rfl rfl rfl rfl ?_
  refine lx_assign rfl rfl rfl ?_
  refine lx_nil ?_
  refine x_ret ?_
  repeat (first | refine kseq_ret ?_ | refine kblk_ret ?_)
  exact kret_tmp rfl rfl (fun w hw => ⟨rfl, hp_below hw⟩)
end Go.Proofs.YtdkmalaffcfoeaaGreatDoor

namespace Go.Proofs.YtdkmalaffcfoeaaGreatDoor
open Go.RowKit
set_option maxRecDepth 100000
set_option maxHeartbeats 1000000
attribute [local simp] fe_len nm_len AS_len SS_len MONT_len RM_len FRs_len BYs_len by48_len PLl TWOl ONEl N1l IVPl HFPl RTPl FL_len SP_len fe2_len SP2_len FM_len GL_len RW_len RPr_len R24_len

theorem signs14 (e : Option Addr) (cap : Nat) (bs : List (BitVec 8)) (k : Int) (hcap : bs.length ≤ cap) (w : World) (hw : Gt w) (hby : BytesAt w e bs) :
    Calls Tryz.prog 5 [.slice e bs.length cap, I k].toArray w (fun r w' => r = .returned (.bool true) ∧ Grow w w') := by
  have hGF : BOk Gt (pl w) := gt_low.plain hw
  obtain ⟨u, hu⟩ : ∃ u, NUMK bs k = u := ⟨_, rfl⟩
  obtain ⟨x, r, h⟩ := swu_ex u
  by_cases hL : ((bs.length : Nat) : Int) > 200
  · skip
    refine calls_of_X (G := Gt) Tryz.func5 rfl rfl (Hp (pl w) []) (hp_refl (pl w) trivial rides_true) (good_hp hGF) ?_
    refine xs_plain (E := EE []) ?_
    refine lx_assign rfl rfl rfl ?_
    refine lx_nil ?_
    refine x_seq ?_
    refine xs_plain (E := EE []) ?_
    refine lx_call rfl rfl ent6 (known14) rfl rfl ?_
    refine lx_un rfl (fun _ => un_not _) rfl rfl ?_
    refine lx_nil ?_
    refine x_false rfl ?_
    refine x_skip ?_
    refine x_seq ?_
    refine xs_plain (E := EE []) ?_
    refine lx_move rfl rfl rfl ?_
    refine lx_len rfl (fun _ => len_slice Tryz.underlying22 _ _ _ _) rfl rfl ?_
    refine lx_binB true rfl rfl (fun _ => rfl) (fun _ => bin_gtr_i _ _ _) (decide_eq_true hL) rfl rfl ?_
    refine lx_nil ?_
    refine x_true rfl ?_
    refine xs_plain (E := EE []) ?_
    refine lx_assign rfl rfl rfl ?_
    refine lx_nil ?_
    refine x_ret ?_
    repeat (first | refine kseq_ret ?_ | refine kblk_ret ?_)
    exact kret_tmp rfl rfl (fun w hw => ⟨rfl, hp_below hw⟩)
  · skip
    have hlen : bs.length ≤ 1000 := by omega
    by_cases h0 : u = ze2
    · skip
      refine calls_of_X (G := Gt) Tryz.func5 rfl rfl (Hp (pl w) []) (hp_refl (pl w) trivial rides_true) (good_hp hGF) ?_
      refine xs_plain (E := EE []) ?_
      refine lx_assign rfl rfl rfl ?_
      refine lx_nil ?_
      refine x_seq ?_
      refine xs_plain (E := EE []) ?_
      refine lx_call rfl rfl ent6 (known14) rfl rfl ?_
      refine lx_un rfl (fun _ => un_not _) rfl rfl ?_
      refine lx_nil ?_
      refine x_false rfl ?_
      refine x_skip ?_
      refine x_seq ?_
      refine xs_plain (E := EE []) ?_
      refine lx_move rfl rfl rfl ?_
      refine lx_len rfl (fun _ => len_slice Tryz.underlying22 _ _ _ _) rfl rfl ?_
      refine lx_binB false rfl rfl (fun _ => rfl) (fun _ => bin_gtr_i _ _ _) (decide_eq_false hL) rfl rfl ?_
      refine lx_nil ?_
      refine x_false rfl ?_
      refine x_skip ?_
      refine xs_plain (E := EE []) ?_
      refine lx_move rfl rfl rfl ?_
      refine lx_move rfl rfl rfl ?_
      refine lx_callC rfl rfl ent7 (fun w' hC hG => num_u hu e cap hlen hcap w' hG (hby.grow (hp_below hC))) rfl rfl ?_
      refine lx_allocr 5 hGF zv29 rfl rfl ?_
      intro b5
      refine lx_storea 5 hGF rfl rfl rfl Tryz.sizeOf29 (by simp) (by simp) (one_u64 _) rfl ?_
      refine lx_nil ?_
      refine xs_plain (E := EE []) ?_
      refine lx_loada 5 rfl rfl Tryz.isAgg29 Tryz.sizeOf29 (by simp) rfl rfl ?_
      refine lx_call rfl rfl ent24 (pmap h) rfl rfl ?_
      refine lx_allocr 6 hGF zv46 rfl rfl ?_
      intro b6
      refine lx_storea 6 hGF rfl rfl rfl Tryz.sizeOf46 (by simp) (by simp) (one_u64 _) rfl ?_
      refine lx_nil ?_
      refine xs_plain (E := EE []) ?_
      refine lx_loada 5 rfl rfl Tryz.isAgg29 Tryz.sizeOf29 (by simp) rfl rfl ?_
      refine lx_call rfl rfl ent8 (pswu h) rfl rfl ?_
      refine lx_move rfl rfl rfl ?_
      refine lx_ext rfl rfl rfl rfl ?_
      refine lx_ext rfl rfl rfl rfl ?_
      refine lx_allocr 7 hGF zv29 rfl rfl ?_
      intro b7
      refine lx_allocr 8 hGF zv29 rfl rfl ?_
      intro b8
      refine lx_storea 7 hGF rfl rfl rfl Tryz.sizeOf29 (by simp) (by simp) (one_u64 _) rfl ?_
      refine lx_storea 8 hGF rfl rfl rfl Tryz.sizeOf29 (by simp) (by simp) (one_u64 _) rfl ?_
      refine lx_nil ?_
      refine xs_drawnT (E := EE []) [(25, [6], []), (26, [7], []), (27, [8], []), (28, [25, 26], [1, 2]), (29, [24, 27], [0, 3, 3]), (30, [28], [4, 4]), (31, [5, 29], [5]), (32, [30, 29], [6, 5, 5]), (33, [31, 29], [7, 7, 5]), (34, [8, 32], [8]), (35, [33, 32], [9, 8, 8]), (36, [32, 34, 29], [8, 10, 5]), (37, [35, 29], [11, 10, 5]), (38, [5, 36], [12]), (39, [37, 36], [13, 12, 12]), (40, [38, 36], [14, 14, 12]), (41, [6, 36], [12]), (42, [40, 36], [16, 15, 12]), (43, [39, 41, 36], [15, 17, 17, 12]), (44, [36, 42, 29], [12, 18, 5]), (45, [29, 43], [5, 19]), (5, [44], [20, 18, 0, 1, 2, 3, 4, 5, 6, 7, 8, 9, 10, 11, 12, 13, 14, 15, 16, 17, 18, 19, 20])] mixed (by kernel_rfl) (by kernel_rfl) (by kernel_rfl) (by kernel_rfl) (by kernel_rfl) ?_
      refine lx_loada 6 rfl rfl Tryz.isAgg46 Tryz.sizeOf46 (by simp) rfl rfl ?_
      refine lx_loada 7 rfl rfl Tryz.isAgg29 Tryz.sizeOf29 (by simp) rfl rfl ?_
      refine lx_loada 8 rfl rfl Tryz.isAgg29 Tryz.sizeOf29 (by simp) rfl rfl ?_
      refine lx_call rfl rfl ent16 (piso _ _ h.on) rfl rfl ?_
      refine lx_callB true rfl rfl ent22 (equal_p _ _) (decide_eq_true rfl) rfl rfl ?_
      refine lx_move rfl rfl rfl ?_
      refine lx_loada 5 rfl rfl Tryz.isAgg29 Tryz.sizeOf29 (by simp) rfl rfl ?_
      refine lx_callB true rfl rfl ent13 (e2isZero _) (decide_eq_true h0) rfl rfl ?_
      refine lx_move rfl rfl rfl ?_
      refine lx_skip rfl rfl rfl ?_
      refine lx_skip rfl rfl rfl ?_
      refine lx_pick rfl rfl rfl rfl rfl ?_
      refine lx_move rfl rfl rfl ?_
      refine lx_skip rfl rfl rfl ?_
      refine lx_skip rfl rfl rfl ?_
      refine lx_skip rfl rfl rfl ?_
      refine lx_skip rfl rfl rfl ?_
      refine lx_skip rfl rfl rfl ?_
      refine lx_skip rfl rfl rfl ?_
      refine lx_pick rfl rfl rfl rfl rfl ?_
      refine lx_pick rfl rfl rfl rfl rfl ?_
      refine lx_assign rfl rfl rfl ?_
      refine lx_nil ?_
      refine x_ret ?_
      repeat (first | refine kseq_ret ?_ | refine kblk_ret ?_)
      exact kret_tmp rfl rfl (fun w hw => ⟨rfl, hp_below hw⟩)
    · skip
      by_cases hz : sgS r u = ze2
      · skip
        refine calls_of_X (G := Gt) Tryz.func5 rfl rfl (Hp (pl w) []) (hp_refl (pl w) trivial rides_true) (good_hp hGF) ?_
        refine xs_plain (E := EE []) ?_
        refine lx_assign rfl rfl rfl ?_
        refine lx_nil ?_
        refine x_seq ?_
        refine xs_plain (E := EE []) ?_
        refine lx_call rfl rfl ent6 (known14) rfl rfl ?_
        refine lx_un rfl (fun _ => un_not _) rfl rfl ?_
        refine lx_nil ?_
        refine x_false rfl ?_
        refine x_skip ?_
        refine x_seq ?_
        refine xs_plain (E := EE []) ?_
        refine lx_move rfl rfl rfl ?_
        refine lx_len rfl (fun _ => len_slice Tryz.underlying22 _ _ _ _) rfl rfl ?_
        refine lx_binB false rfl rfl (fun _ => rfl) (fun _ => bin_gtr_i _ _ _) (decide_eq_false hL) rfl rfl ?_
        refine lx_nil ?_
        refine x_false rfl ?_
        refine x_skip ?_
        refine xs_plain (E := EE []) ?_
        refine lx_move rfl rfl rfl ?_
        refine lx_move rfl rfl rfl ?_
        refine lx_callC rfl rfl ent7 (fun w' hC hG => num_u hu e cap hlen hcap w' hG (hby.grow (hp_below hC))) rfl rfl ?_
        refine lx_allocr 5 hGF zv29 rfl rfl ?_
        intro b5
        refine lx_storea 5 hGF rfl rfl rfl Tryz.sizeOf29 (by simp) (by simp) (one_u64 _) rfl ?_
        refine lx_nil ?_
        refine xs_plain (E := EE []) ?_
        refine lx_loada 5 rfl rfl Tryz.isAgg29 Tryz.sizeOf29 (by simp) rfl rfl ?_
        refine lx_call rfl rfl ent24 (pmap h) rfl rfl ?_
        refine lx_allocr 6 hGF zv46 rfl rfl ?_
        intro b6
        refine lx_storea 6 hGF rfl rfl rfl Tryz.sizeOf46 (by simp) (by simp) (one_u64 _) rfl ?_
        refine lx_nil ?_
        refine xs_plain (E := EE []) ?_
        refine lx_loada 5 rfl rfl Tryz.isAgg29 Tryz.sizeOf29 (by simp) rfl rfl ?_
        refine lx_call rfl rfl ent8 (pswu h) rfl rfl ?_
        refine lx_move rfl rfl rfl ?_
        refine lx_ext rfl rfl rfl rfl ?_
        refine lx_ext rfl rfl rfl rfl ?_
        refine lx_allocr 7 hGF zv29 rfl rfl ?_
        intro b7
        refine lx_allocr 8 hGF zv29 rfl rfl ?_
        intro b8
        refine lx_storea 7 hGF rfl rfl rfl Tryz.sizeOf29 (by simp) (by simp) (one_u64 _) rfl ?_
        refine lx_storea 8 hGF rfl rfl rfl Tryz.sizeOf29 (by simp) (by simp) (one_u64 _) rfl ?_
        refine lx_nil ?_
        refine xs_drawnT (E := EE []) [(25, [6], []), (26, [7], []), (27, [8], []), (28, [25, 26], [1, 2]), (29, [24, 27], [0, 3, 3]), (30, [28], [4, 4]), (31, [5, 29], [5]), (32, [30, 29], [6, 5, 5]), (33, [31, 29], [7, 7, 5]), (34, [8, 32], [8]), (35, [33, 32], [9, 8, 8]), (36, [32, 34, 29], [8, 10, 5]), (37, [35, 29], [11, 10, 5]), (38, [5, 36], [12]), (39, [37, 36], [13, 12, 12]), (40, [38, 36], [14, 14, 12]), (41, [6, 36], [12]), (42, [40, 36], [16, 15, 12]), (43, [39, 41, 36], [15, 17, 17, 12]), (44, [36, 42, 29], [12, 18, 5]), (45, [29, 43], [5, 19]), (5, [44], [20, 18, 0, 1, 2, 3, 4, 5, 6, 7, 8, 9, 10, 11, 12, 13, 14, 15, 16, 17, 18, 19, 20])] mixed (by kernel_rfl) (by kernel_rfl) (by kernel_rfl) (by kernel_rfl) (by kernel_rfl) ?_
        refine lx_loada 6 rfl rfl Tryz.isAgg46 Tryz.sizeOf46 (by simp) rfl rfl ?_
        refine lx_loada 7 rfl rfl Tryz.isAgg29 Tryz.sizeOf29 (by simp) rfl rfl ?_
        refine lx_loada 8 rfl rfl Tryz.isAgg29 Tryz.sizeOf29 (by simp) rfl rfl ?_
        refine lx_call rfl rfl ent16 (piso _ _ h.on) rfl rfl ?_
        refine lx_callB true rfl rfl ent22 (equal_p _ _) (decide_eq_true rfl) rfl rfl ?_
        refine lx_move rfl rfl rfl ?_
        refine lx_loada 5 rfl rfl Tryz.isAgg29 Tryz.sizeOf29 (by simp) rfl rfl ?_
        refine lx_callB false rfl rfl ent13 (e2isZero _) (decide_eq_false h0) rfl rfl ?_
        refine lx_move rfl rfl rfl ?_
        refine lx_loada 8 rfl rfl Tryz.isAgg29 Tryz.sizeOf29 (by simp) rfl rfl ?_
        refine lx_callB true rfl rfl ent13 (e2isZero _) (decide_eq_true hz) rfl rfl ?_
        refine lx_pick rfl rfl rfl rfl rfl ?_
        refine lx_move rfl rfl rfl ?_
        refine lx_skip rfl rfl rfl ?_
        refine lx_skip rfl rfl rfl ?_
        refine lx_skip rfl rfl rfl ?_
        refine lx_skip rfl rfl rfl ?_
        refine lx_skip rfl rfl rfl ?_
        refine lx_skip rfl rfl rfl ?_
        refine lx_pick rfl rfl rfl rfl rfl ?_
        refine lx_pick rfl rfl rfl rfl rfl ?_
        refine lx_assign rfl rfl rfl ?_
        refine lx_nil ?_
        refine x_ret ?_
        repeat (first | refine kseq_ret ?_ | refine kblk_ret ?_)
        exact kret_tmp rfl rfl (fun w hw => ⟨rfl, hp_below hw⟩)
      · skip
        refine calls_of_X (G := Gt) Tryz.func5 rfl rfl (Hp (pl w) []) (hp_refl (pl w) trivial rides_true) (good_hp hGF) ?_
        refine xs_plain (E := EE []) ?_
        refine lx_assign rfl rfl rfl ?_
        refine lx_nil ?_
        refine x_seq ?_
        refine xs_plain (E := EE []) ?_
        refine lx_call rfl rfl ent6 (known14) rfl rfl ?_
        refine lx_un rfl (fun _ => un_not _) rfl rfl ?_
        refine lx_nil ?_
        refine x_false rfl ?_
        refine x_skip ?_
        refine x_seq ?_
        refine xs_plain (E := EE []) ?_
        refine lx_move rfl rfl rfl ?_
        refine lx_len rfl (fun _ => len_slice Tryz.underlying22 _ _ _ _) rfl rfl ?_
        refine lx_binB false rfl rfl (fun _ => rfl) (fun _ => bin_gtr_i _ _ _) (decide_eq_false hL) rfl rfl ?_
        refine lx_nil ?_
        refine x_false rfl ?_
        refine x_skip ?_
        refine xs_plain (E := EE []) ?_
        refine lx_move rfl rfl rfl ?_
        refine lx_move rfl rfl rfl ?_
        refine lx_callC rfl rfl ent7 (fun w' hC hG => num_u hu e cap hlen hcap w' hG (hby.grow (hp_below hC))) rfl rfl ?_
        refine lx_allocr 5 hGF zv29 rfl rfl ?_
        intro b5
        refine lx_storea 5 hGF rfl rfl rfl Tryz.sizeOf29 (by simp) (by simp) (one_u64 _) rfl ?_
        refine lx_nil ?_
        refine xs_plain (E := EE []) ?_
        refine lx_loada 5 rfl rfl Tryz.isAgg29 Tryz.sizeOf29 (by simp) rfl rfl ?_
        refine lx_call rfl rfl ent24 (pmap h) rfl rfl ?_
        refine lx_allocr 6 hGF zv46 rfl rfl ?_
        intro b6
        refine lx_storea 6 hGF rfl rfl rfl Tryz.sizeOf46 (by simp) (by simp) (one_u64 _) rfl ?_
        refine lx_nil ?_
        refine xs_plain (E := EE []) ?_
        refine lx_loada 5 rfl rfl Tryz.isAgg29 Tryz.sizeOf29 (by simp) rfl rfl ?_
        refine lx_call rfl rfl ent8 (pswu h) rfl rfl ?_
        refine lx_move rfl rfl rfl ?_
        refine lx_ext rfl rfl rfl rfl ?_
        refine lx_ext rfl rfl rfl rfl ?_
        refine lx_allocr 7 hGF zv29 rfl rfl ?_
        intro b7
        refine lx_allocr 8 hGF zv29 rfl rfl ?_
        intro b8
        refine lx_storea 7 hGF rfl rfl rfl Tryz.sizeOf29 (by simp) (by simp) (one_u64 _) rfl ?_
        refine lx_storea 8 hGF rfl rfl rfl Tryz.sizeOf29 (by simp) (by simp) (one_u64 _) rfl ?_
        refine lx_nil ?_
        refine xs_drawnT (E := EE []) [(25, [6], []), (26, [7], []), (27, [8], []), (28, [25, 26], [1, 2]), (29, [24, 27], [0, 3, 3]), (30, [28], [4, 4]), (31, [5, 29], [5]), (32, [30, 29], [6, 5, 5]), (33, [31, 29], [7, 7, 5]), (34, [8, 32], [8]), (35, [33, 32], [9, 8, 8]), (36, [32, 34, 29], [8, 10, 5]), (37, [35, 29], [11, 10, 5]), (38, [5, 36], [12]), (39, [37, 36], [13, 12, 12]), (40, [38, 36], [14, 14, 12]), (41, [6, 36], [12]), (42, [40, 36], [16, 15, 12]), (43, [39, 41, 36], [15, 17, 17, 12]), (44, [36, 42, 29], [12, 18, 5]), (45, [29, 43], [5, 19]), (5, [44], [20, 18, 0, 1, 2, 3, 4, 5, 6, 7, 8, 9, 10, 11, 12, 13, 14, 15, 16, 17, 18, 19, 20])] mixed (by kernel_rfl) (by kernel_rfl) (by kernel_rfl) (by kernel_rfl) (by kernel_rfl) ?_
        refine lx_loada 6 rfl rfl Tryz.isAgg46 Tryz.sizeOf46 (by simp) rfl rfl ?_
        refine lx_loada 7 rfl rfl Tryz.isAgg29 Tryz.sizeOf29 (by simp) rfl rfl ?_
        refine lx_loada 8 rfl rfl Tryz.isAgg29 Tryz.sizeOf29 (by simp) rfl rfl ?_
        refine lx_call rfl rfl ent16 (piso _ _ h.on) rfl rfl ?_
        refine lx_callB true rfl rfl ent22 (equal_p _ _) (decide_eq_true rfl) rfl rfl ?_
        refine lx_move rfl rfl rfl ?_
        refine lx_loada 5 rfl rfl Tryz.isAgg29 Tryz.sizeOf29 (by simp) rfl rfl ?_
        refine lx_callB false rfl rfl ent13 (e2isZero _) (decide_eq_false h0) rfl rfl ?_
        refine lx_move rfl rfl rfl ?_
        refine lx_loada 8 rfl rfl Tryz.isAgg29 Tryz.sizeOf29 (by simp) rfl rfl ?_
        refine lx_callB false rfl rfl ent13 (e2isZero _) (decide_eq_false hz) rfl rfl ?_
        refine lx_pick rfl rfl rfl rfl rfl ?_
        refine lx_move rfl rfl rfl ?_
        refine lx_loada 5 rfl rfl Tryz.isAgg29 Tryz.sizeOf29 (by simp) rfl rfl ?_
        refine lx_call rfl rfl ent15 (e2neg _) rfl rfl ?_
        refine lx_call rfl rfl ent24 (pmap h.neg) rfl rfl ?_
        refine lx_loada 6 rfl rfl Tryz.isAgg46 Tryz.sizeOf46 (by simp) rfl rfl ?_
        refine lx_call rfl rfl ent23 (neg_p _) rfl rfl ?_
        refine lx_callB true rfl rfl ent22 (equal_p _ _) (decide_eq_true (iso_neg h.on h.neg.on (sgS_ng h0))) rfl rfl ?_
        refine lx_pick rfl rfl rfl rfl rfl ?_
        refine lx_pick rfl rfl rfl rfl rfl ?_
        refine lx_assign rfl rfl rfl ?_
        refine lx_nil ?_
        refine x_ret ?_
        repeat (first | refine kseq_ret ?_ | refine kblk_ret ?_)
        exact kret_tmp rfl rfl (fun w hw => ⟨rfl, hp_below hw⟩)
end Go.Proofs.YtdkmalaffcfoeaaGreatDoor
