/-
  The walks of package fp: elements of p.
  The program's numbers of many bytes.
-/
import Derived.Test.YtlimfhjjadbjgaaDoorX7
import Derived.Test.YtlimfhjjadbjgaaDoorX3
import Derived.Test.YtlimfhjjadbjgaaDoorX6
import Derived.Test.YtlimfhjjadbjgaaDoorX5
import Derived.Test.YtlimfhjjadbjgaaDoorX2
namespace Go.Proofs.YtlimfhjjadbjgaaDoor
open Go.RowKit
set_option maxRecDepth 100000
set_option maxHeartbeats 1000000

theorem PLl : PL.length = 6 := rfl
theorem TWOl : TWO.length = 6 := rfl
theorem ONEl : ONE.length = 6 := rfl
theorem N1l : N1.length = 6 := rfl
theorem IVPl : IVP.length = 6 := rfl
theorem HFPl : HFP.length = 6 := rfl
theorem RTPl : RTP.length = 6 := rfl
attribute [local simp] fe_len nm_len AS_len SS_len MONT_len RM_len FRs_len BYs_len by48_len PLl TWOl ONEl N1l IVPl HFPl RTPl
/-- An element as a value. -/
abbrev EV (x : Zp) : Value := .agg ((fe x).map U64).toArray
abbrev NV (n : List (BitVec 64)) : Value := .agg (n.map U64).toArray
theorem zv50 (w : World) : (zeroValue 50).run Tryd.prog w = .ok (.agg ((List.replicate 6 (0#64)).map U64).toArray) w := (Tryd.zeroValue50 w).trans (by rfl)
theorem eqg42 (op : BinOp) (x y : Operand) (xs ys : Array Value) (w : World) : (eqGuard op 42 x y (.agg xs) (.agg ys)).run Tryd.prog w = .ok () w := run_eqGuard_agg w op 42 x y xs ys (by kernel_rfl)
theorem eqv42 (xs ys : List (BitVec 64)) (h : xs.length = 6) (h' : ys.length = 6) (w : World) : (binOp .eql 42 (.agg (xs.map U64).toArray) (.agg (ys.map U64).toArray)).run Tryd.prog w = .ok (.bool (decide (xs = ys))) w := bin_eq64 Tryd.underlying42 Tryd.underlying41 Tryd.sizeOf41 Tryd.isAgg41 xs ys h h' w
theorem decide_fe (x y : Zp) : decide (fe x = fe y) = decide (x = y) := decide_eq_decide.2 fe_inj
theorem beq_t {x y : BitVec 64} (h : (x == y) = true) : x = y := beq_iff_eq.1 h
theorem beq_f {x y : BitVec 64} (h : (x == y) = false) : ¬ x = y := beq_eq_false_iff_ne.1 h
theorem ent32 : Enters Tryd.prog 32 := fun _ _ => by kernel_rfl
theorem ent37 : Enters Tryd.prog 37 := fun _ _ => by kernel_rfl
theorem ent26 : Enters Tryd.prog 26 := fun _ _ => by kernel_rfl
theorem ent47 : Enters Tryd.prog 47 := fun _ _ => by kernel_rfl
theorem ent53 : Enters Tryd.prog 53 := fun _ _ => by kernel_rfl
theorem ent46 : Enters Tryd.prog 46 := fun _ _ => by kernel_rfl
theorem ent45 : Enters Tryd.prog 45 := fun _ _ => by kernel_rfl
theorem fmul_pure (x y : Zp) : Pure Tryd.prog Gt 45 [EV x, EV y] (EV (x * y)) := by
  intro w hw
  have hGF : BOk Gt (pl w) := gt_low.plain hw
  refine calls_of_X (G := Gt) Tryd.func45 rfl rfl (Hp (pl w) []) (hp_refl (pl w) trivial rides_true) (good_hp hGF) ?_
  refine xs_plain (E := EE []) ?_
  refine lx_boxr 2 hGF rfl rfl rfl ?_
  intro b2
  refine lx_boxr 3 hGF rfl rfl rfl ?_
  intro b3
  refine lx_allocr 4 hGF zv50 rfl rfl ?_
  intro b4
  refine lx_nil ?_
  refine xs_plain (E := EE []) ?_
  refine lx_fak 0 rfl Tryd.underlying50 rfl Tryd.sizeOf42 (by decide) rfl rfl rfl ?_
  refine lx_loada 2 rfl rfl Tryd.isAgg42 Tryd.sizeOf42 (by simp) rfl rfl ?_
  refine lx_fak 0 rfl Tryd.underlying50 rfl Tryd.sizeOf42 (by decide) rfl rfl rfl ?_
  refine lx_loada 3 rfl rfl Tryd.isAgg42 Tryd.sizeOf42 (by simp) rfl rfl ?_
  refine lx_gl hGF Tryd.isAgg42 Tryd.sizeOf42 (by simp) (fun _ h => h.g2) rfl rfl ?_
  refine lx_call rfl rfl ent59 (mont_pure _ _ _ (by simp) (by simp) (by simp)) rfl rfl ?_
  refine lx_buildS rfl (by simp) Tryd.underlying50 rfl Tryd.sizeOf42 zv50 rfl rfl ?_
  refine lx_storea 4 hGF rfl rfl rfl Tryd.sizeOf50 (by simp) (by simp) (one_u64 _) rfl ?_
  refine lx_nil ?_
  refine x_ret ?_
  repeat (first | refine kseq_ret ?_ | refine kblk_ret ?_)
  exact kret_own 4 rfl rfl rfl Tryd.isAgg50 Tryd.sizeOf50 (by simp) (fun w hw => ⟨by rw [MONT_fe], hp_below hw⟩)
theorem felem_pure (n : List (BitVec 64)) (hn : n.length = 6) : Pure Tryd.prog Gt 47 [NV n] (EV (zp (V n 6))) := by
  intro w hw
  have hGF : BOk Gt (pl w) := gt_low.plain hw
  refine calls_of_X (G := Gt) Tryd.func47 rfl rfl (Hp (pl w) []) (hp_refl (pl w) trivial rides_true) (good_hp hGF) ?_
  refine xs_plain (E := EE []) ?_
  refine lx_boxr 1 hGF rfl rfl rfl ?_
  intro b1
  refine lx_allocr 2 hGF zv50 rfl rfl ?_
  intro b2
  refine lx_nil ?_
  refine xs_plain (E := EE []) ?_
  refine lx_gl hGF Tryd.isAgg42 Tryd.sizeOf42 (by first | (simp; done) | simp [hn]) (fun _ h => h.g0) rfl rfl ?_
  refine lx_loada 1 rfl rfl Tryd.isAgg42 Tryd.sizeOf42 (by first | (simp; done) | simp [hn]) rfl rfl ?_
  refine lx_gl hGF Tryd.isAgg42 Tryd.sizeOf42 (by first | (simp; done) | simp [hn]) (fun _ h => h.g2) rfl rfl ?_
  refine lx_call rfl rfl ent59 (mont_pure _ _ _ (by first | (simp; done) | simp [hn]) (by first | (simp; done) | simp [hn]) (by first | (simp; done) | simp [hn])) rfl rfl ?_
  refine lx_buildS rfl (by first | (simp; done) | simp [hn]) Tryd.underlying50 rfl Tryd.sizeOf42 zv50 rfl rfl ?_
  refine lx_storea 2 hGF rfl rfl rfl Tryd.sizeOf50 (by first | (simp; done) | simp [hn]) (by first | (simp; done) | simp [hn]) (one_u64 _) rfl ?_
  refine lx_nil ?_
  refine x_ret ?_
  repeat (first | refine kseq_ret ?_ | refine kblk_ret ?_)
  exact kret_own 2 rfl rfl rfl Tryd.isAgg50 Tryd.sizeOf50 (by first | (simp; done) | simp [hn]) (fun w hw => ⟨by rw [MONT_two], hp_below hw⟩)
theorem fnumber_pure (x : Zp) : Pure Tryd.prog Gt 53 [EV x] (NV (nm x)) := by
  intro w hw
  have hGF : BOk Gt (pl w) := gt_low.plain hw
  refine calls_of_X (G := Gt) Tryd.func53 rfl rfl (Hp (pl w) []) (hp_refl (pl w) trivial rides_true) (good_hp hGF) ?_
  refine xs_plain (E := EE []) ?_
  refine lx_boxr 1 hGF rfl rfl rfl ?_
  intro b1
  refine lx_allocr 2 hGF zv42 rfl rfl ?_
  intro b2
  refine lx_nil ?_
  refine xs_plain (E := EE []) ?_
  refine lx_fak 0 rfl Tryd.underlying50 rfl Tryd.sizeOf42 (by decide) rfl rfl rfl ?_
  refine lx_loada 1 rfl rfl Tryd.isAgg42 Tryd.sizeOf42 (by simp) rfl rfl ?_
  refine lx_build1 1 rfl Tryd.underlying42 Tryd.sizeOf41 zv42 rfl rfl ?_
  refine lx_gl hGF Tryd.isAgg42 Tryd.sizeOf42 (by simp) (fun _ h => h.g2) rfl rfl ?_
  refine lx_call rfl rfl ent59 (mont_pure _ _ _ (by simp) (by simp) (by simp)) rfl rfl ?_
  refine lx_storea 2 hGF rfl rfl rfl Tryd.sizeOf42 (by simp) (by simp) (one_u64 _) rfl ?_
  refine lx_nil ?_
  refine x_ret ?_
  repeat (first | refine kseq_ret ?_ | refine kblk_ret ?_)
  exact kret_own 2 rfl rfl rfl Tryd.isAgg42 Tryd.sizeOf42 (by simp) (fun w hw => ⟨by rw [← MONT_one]; rfl, hp_below hw⟩)
theorem fequal_pure (x y : Zp) : Pure Tryd.prog Gt 26 [EV x, EV y] (.bool (decide (x = y))) := by
  intro w hw
  have hGF : BOk Gt (pl w) := gt_low.plain hw
  refine calls_of_X (G := Gt) Tryd.func26 rfl rfl (Hp (pl w) []) (hp_refl (pl w) trivial rides_true) (good_hp hGF) ?_
  refine xs_plain (E := EE []) ?_
  refine lx_boxr 2 hGF rfl rfl rfl ?_
  intro b2
  refine lx_boxr 3 hGF rfl rfl rfl ?_
  intro b3
  refine lx_assign rfl rfl rfl ?_
  refine lx_nil ?_
  refine xs_plain (E := EE []) ?_
  refine lx_fak 0 rfl Tryd.underlying50 rfl Tryd.sizeOf42 (by decide) rfl rfl rfl ?_
  refine lx_loada 2 rfl rfl Tryd.isAgg42 Tryd.sizeOf42 (by simp) rfl rfl ?_
  refine lx_fak 0 rfl Tryd.underlying50 rfl Tryd.sizeOf42 (by decide) rfl rfl rfl ?_
  refine lx_loada 3 rfl rfl Tryd.isAgg42 Tryd.sizeOf42 (by simp) rfl rfl ?_
  refine lx_bin rfl rfl (fun _ => eqg42 _ _ _ _ _ _) (fun w => eqv42 _ _ (by simp) (by simp) w) rfl rfl ?_
  refine lx_assign rfl rfl rfl ?_
  refine lx_nil ?_
  refine x_ret ?_
  repeat (first | refine kseq_ret ?_ | refine kblk_ret ?_)
  exact kret_tmp rfl rfl (fun w hw => ⟨by rw [decide_fe], hp_below hw⟩)
theorem fadd_pure (x y : Zp) : Pure Tryd.prog Gt 46 [EV x, EV y] (EV (x + y)) := by
  intro w hw
  have hGF : BOk Gt (pl w) := gt_low.plain hw
  refine calls_of_X (G := Gt) Tryd.func46 rfl rfl (Hp (pl w) []) (hp_refl (pl w) trivial rides_true) (good_hp hGF) ?_
  refine xs_plain (E := EE []) ?_
  refine lx_boxr 2 hGF rfl rfl rfl ?_
  intro b2
  refine lx_boxr 3 hGF rfl rfl rfl ?_
  intro b3
  refine lx_allocr 4 hGF zv50 rfl rfl ?_
  intro b4
  refine lx_nil ?_
  refine xs_plain (E := EE []) ?_
  refine lx_fak 0 rfl Tryd.underlying50 rfl Tryd.sizeOf42 (by decide) rfl rfl rfl ?_
  refine lx_loada 2 rfl rfl Tryd.isAgg42 Tryd.sizeOf42 (by simp) rfl rfl ?_
  refine lx_fak 0 rfl Tryd.underlying50 rfl Tryd.sizeOf42 (by decide) rfl rfl rfl ?_
  refine lx_loada 3 rfl rfl Tryd.isAgg42 Tryd.sizeOf42 (by simp) rfl rfl ?_
  refine lx_call rfl rfl ent60 (add_pure _ _ (by simp) (by simp)) rfl rfl ?_
  refine lx_move rfl rfl rfl ?_
  refine lx_ext rfl rfl rfl rfl ?_
  refine lx_ext rfl rfl rfl rfl ?_
  refine lx_allocr 5 hGF zv42 rfl rfl ?_
  intro b5
  refine lx_storea 5 hGF rfl rfl rfl Tryd.sizeOf42 (by simp) (by simp) (one_u64 _) rfl ?_
  refine lx_assign rfl rfl rfl ?_
  refine lx_nil ?_
  refine xs_plain (E := EE []) ?_
  refine lx_loada 5 rfl rfl Tryd.isAgg42 Tryd.sizeOf42 (by simp) rfl rfl ?_
  refine lx_gl hGF Tryd.isAgg42 Tryd.sizeOf42 (by simp) (fun _ h => h.g2) rfl rfl ?_
  refine lx_call rfl rfl ent61 (sub_pure _ _ (by simp) (by simp)) rfl rfl ?_
  refine lx_move rfl rfl rfl ?_
  refine lx_ext rfl rfl rfl rfl ?_
  refine lx_ext rfl rfl rfl rfl ?_
  refine lx_allocr 7 hGF zv42 rfl rfl ?_
  intro b7
  refine lx_storea 7 hGF rfl rfl rfl Tryd.sizeOf42 (by simp) (by simp) (one_u64 _) rfl ?_
  refine lx_assign rfl rfl rfl ?_
  refine lx_nil ?_
  refine x_seq ?_
  refine xs_plain (E := EE []) ?_
  refine lx_move rfl rfl rfl ?_
  refine lx_bin rfl rfl (fun _ => rfl) (fun _ => bin_eql_u64 _ _ _) rfl rfl ?_
  refine lx_nil ?_
  refine x_if rfl (fun hc => ?_) (fun hc => ?_)
  · skip
    refine xs_plain (E := EE []) ?_
    refine lx_loada 5 rfl rfl Tryd.isAgg42 Tryd.sizeOf42 (by simp) rfl rfl ?_
    refine lx_buildS rfl (by simp) Tryd.underlying50 rfl Tryd.sizeOf42 zv50 rfl rfl ?_
    refine lx_storea 4 hGF rfl rfl rfl Tryd.sizeOf50 (by simp) (by simp) (one_u64 _) rfl ?_
    refine lx_nil ?_
    refine x_ret ?_
    repeat (first | refine kseq_ret ?_ | refine kblk_ret ?_)
    exact kret_own 4 rfl rfl rfl Tryd.isAgg50 Tryd.sizeOf50 (by simp) (fun w hw => ⟨by rw [add_low (sum_lt (beq_t hc))], hp_below hw⟩)
  · skip
    refine x_skip ?_
    refine xs_plain (E := EE []) ?_
    refine lx_loada 7 rfl rfl Tryd.isAgg42 Tryd.sizeOf42 (by simp) rfl rfl ?_
    refine lx_buildS rfl (by simp) Tryd.underlying50 rfl Tryd.sizeOf42 zv50 rfl rfl ?_
    refine lx_storea 4 hGF rfl rfl rfl Tryd.sizeOf50 (by simp) (by simp) (one_u64 _) rfl ?_
    refine lx_nil ?_
    refine x_ret ?_
    repeat (first | refine kseq_ret ?_ | refine kblk_ret ?_)
    exact kret_own 4 rfl rfl rfl Tryd.isAgg50 Tryd.sizeOf50 (by simp) (fun w hw => ⟨by rw [add_high (one_or (SS_c _ _ _) (beq_f hc))], hp_below hw⟩)
theorem fbytes_pure (x : Zp) : Pure Tryd.prog Gt 37 [EV x] (.agg ((by48 x).map U8).toArray) := by
  intro w hw
  have hGF : BOk Gt (pl w) := gt_low.plain hw
  refine calls_of_X (G := Gt) Tryd.func37 rfl rfl (Hp (pl w) []) (hp_refl (pl w) trivial rides_true) (good_hp hGF) ?_
  refine xs_plain (E := EE []) ?_
  refine lx_boxr 1 hGF rfl rfl rfl ?_
  intro b1
  refine lx_allocr 2 hGF zv88 rfl rfl ?_
  intro b2
  refine lx_nil ?_
  refine xs_plain (E := EE []) ?_
  refine lx_loada 1 rfl rfl Tryd.isAgg50 Tryd.sizeOf50 (by simp) rfl rfl ?_
  refine lx_call rfl rfl ent53 (fnumber_pure _) rfl rfl ?_
  refine lx_call rfl rfl ent52 (bytesOf_pure _ (by simp)) rfl rfl ?_
  refine lx_storea 2 hGF rfl rfl rfl Tryd.sizeOf88 (by simp) (by simp) (one_u8 _) rfl ?_
  refine lx_nil ?_
  refine x_ret ?_
  repeat (first | refine kseq_ret ?_ | refine kblk_ret ?_)
  exact kret_own 2 rfl rfl rfl Tryd.isAgg88 Tryd.sizeOf88 (by simp) (fun w hw => ⟨rfl, hp_below hw⟩)
end Go.Proofs.YtlimfhjjadbjgaaDoor

namespace Go.Proofs.YtlimfhjjadbjgaaDoor
open Go.RowKit
set_option maxRecDepth 100000
set_option maxHeartbeats 1000000
attribute [local simp] fe_len nm_len AS_len SS_len MONT_len RM_len FRs_len BYs_len by48_len PLl TWOl ONEl N1l IVPl HFPl RTPl

theorem lfrom_small (a : Option Addr) (len cap : Nat) (bs : List (BitVec 8)) (hl : bs.length = len) (h : len ≤ 48) (w : World) (hw : Gt w) (hby : BytesAt w a bs) :
    Calls Tryd.prog 44 [.slice a len cap].toArray w (fun e w' => e = .returned (.tuple #[NV (FRs bs bs.length), .bool true]) ∧ Grow w w') := by
  subst hl
  exact (from_calls a cap bs w hw hby).mono fun e w' ⟨he, hg⟩ => ⟨by rw [he, if_neg (by omega)], hg⟩
/-- Where the loop over pieces stands. -/
structure WSt (w : World) (bs : List (BitVec 8)) where
  (k : Nat) (a : Option Addr) (c : Nat)
  hk : k ≤ bs.length
  hc : bs.length - k ≤ c
  hb : BytesAt w a (bs.drop k)
  hm : k = 0 ∨ (bs.length - k) % 48 = 0
theorem piece_len (bs : List (BitVec 8)) (k cut : Nat) (h : cut ≤ bs.length - k) : ((bs.drop k).take cut).length = cut := by
  rw [List.length_take, List.length_drop]; omega
theorem fmulR_pure (y : Zp) : Pure Tryd.prog Gt 45 [EV y, NV TWO] (EV (y * RZ)) := TWO_fe ▸ fmul_pure y RZ
theorem felemP_pure (bs : List (BitVec 8)) (h : bs.length ≤ 48) : Pure Tryd.prog Gt 47 [NV (FRs bs bs.length)] (EV (zp (BN bs bs.length))) := V_FRs bs h ▸ felem_pure (FRs bs bs.length) (FRs_len _ _)
theorem fwide_calls (e : Option Addr) (cap : Nat) (bs : List (BitVec 8)) (hlen : bs.length ≤ 1000000) (hcap : bs.length ≤ cap) (w : World) (hw : Gt w) (hby : BytesAt w e bs) :
    Calls Tryd.prog 32 [.slice e bs.length cap].toArray w (fun r w' => r = .returned (EV (ZB bs)) ∧ Grow w w') := by
  have hGF : BOk Gt (pl w) := gt_low.plain hw
  refine calls_of_X (G := Gt) Tryd.func32 rfl rfl (Hp (pl w) []) (hp_refl (pl w) trivial rides_true) (good_hp hGF) ?_
  refine xs_plain (E := EE []) ?_
  refine lx_allocr 2 hGF zv50 rfl rfl ?_
  intro b2
  refine lx_nil ?_
  refine xs_plain (E := EE []) ?_
  refine lx_allocr 3 hGF zv50 rfl rfl ?_
  intro b3
  refine lx_nil ?_
  refine x_seq ?_
  refine x_block ?_
  refine x_for (ι := WSt w bs) (fun x => [(0, .slice x.a (bs.length - x.k) x.c), (2, .pointer (some ⟨b2, 0, none⟩)), (3, .pointer (some ⟨b3, 0, none⟩))]) (fun x => [(2, b2, (List.replicate 6 0#64).map U64, 50), (3, b3, (fe (zp (BN bs x.k))).map U64, 50)]) (fun x => (bs.length - x.k)) ⟨0, e, cap, Nat.zero_le _, hcap, hby, .inl rfl⟩ hGF ⟨rfl, rfl, rfl, trivial⟩ ⟨rfl, by rw [BN, zp_0, fe_0]; rfl, trivial⟩ ?_
  intro x
  refine x_seq ?_
  refine xs_plain (E := EE []) ?_
  refine lx_move rfl rfl rfl ?_
  refine lx_len rfl (fun _ => len_slice Tryd.underlying22 _ _ _ _) rfl rfl ?_
  refine lx_bin rfl rfl (fun _ => rfl) (fun _ => bin_gtr_i _ _ _) rfl rfl ?_
  refine lx_nil ?_
  refine x_if rfl (fun hc => ?_) (fun hc => ?_)
  · have hn : 0 < (bs.length - x.k) := by simp at hc; omega
    clear hc
    have hlenx := x.hk
    have hcut := cut_rest hn
    have hnext : BytesAt w (if x.c = (((bs.length - x.k) - 1) % 48 + 1) then x.a else x.a.map (·.add ((((bs.length - x.k) - 1) % 48 + 1) * 1))) (bs.drop (x.k + (((bs.length - x.k) - 1) % 48 + 1))) := by
      have := x.hb.drop (cap := x.c) (l := (((bs.length - x.k) - 1) % 48 + 1)) (by rw [List.length_drop]; exact x.hc) (by omega)
      rw [List.drop_drop] at this
      exact this
    have hstep : zp (BN bs x.k) * RZ + zp (BN ((bs.drop x.k).take (((bs.length - x.k) - 1) % 48 + 1)) ((bs.drop x.k).take (((bs.length - x.k) - 1) % 48 + 1)).length) = zp (BN bs (x.k + (((bs.length - x.k) - 1) % 48 + 1))) := by
      rw [piece_len bs x.k _ hcut.2.1, BN_take]
      exact wide_step bs x.k _ (or_map id (cut_of hn) x.hm)
    refine x_skip ?_
    refine x_block ?_
    refine xs_plain (E := EE []) ?_
    refine lx_move rfl rfl rfl ?_
    refine lx_len rfl (fun _ => len_slice Tryd.underlying22 _ _ _ _) rfl rfl ?_
    refine lx_bin (v := I (((bs.length - x.k) - 1 : Nat) : Int)) rfl rfl (fun _ => rfl) (fun _ => (bin_sub_i _ _ _ (by unfold inI; omega)).trans (by rw [show ((bs.length - x.k : Nat) : Int) - 1 = ((bs.length - x.k - 1 : Nat) : Int) by omega])) rfl rfl ?_
    refine lx_bin (v := I ((((bs.length - x.k) - 1) % 48 : Nat) : Int)) rfl rfl (fun _ => rfl) (fun _ => bin_rem_i _ _ _ (by decide)) rfl rfl ?_
    refine lx_bin (v := I (((((bs.length - x.k) - 1) % 48 + 1) : Nat) : Int)) rfl rfl (fun _ => rfl) (fun _ => bin_add_i _ _ _ (by unfold inI; omega)) rfl rfl ?_
    refine lx_assign rfl rfl rfl ?_
    refine lx_nil ?_
    refine xs_plain (E := EE []) ?_
    refine lx_move rfl rfl rfl ?_
    refine lx_move rfl rfl rfl ?_
    refine lx_slsl (l := 0) (h' := (((bs.length - x.k) - 1) % 48 + 1)) rfl Tryd.underlying22 Tryd.sizeOf5 rfl rfl ⟨Nat.zero_le _, Nat.le_trans hcut.2.1 x.hc⟩ rfl rfl ?_
    refine lx_callC rfl rfl ent44 (fun w' hC hG => lfrom_small _ (((bs.length - x.k) - 1) % 48 + 1) _ ((bs.drop x.k).take (((bs.length - x.k) - 1) % 48 + 1)) (piece_len bs x.k _ hcut.2.1) hcut.2.2 w' hG ((x.hb.cut 0 (((bs.length - x.k) - 1) % 48 + 1) (by rw [List.length_drop]; exact x.hc)).grow (hp_below hC))) rfl rfl ?_
    refine lx_move rfl rfl rfl ?_
    refine lx_ext rfl rfl rfl rfl ?_
    refine lx_ext rfl rfl rfl rfl ?_
    refine lx_allocr 5 hGF zv42 rfl rfl ?_
    intro b5
    refine lx_storea 5 hGF rfl rfl rfl Tryd.sizeOf42 (by simp) (by simp) (one_u64 _) rfl ?_
    refine lx_assign rfl rfl rfl ?_
    refine lx_nil ?_
    refine xs_drawn (E := EE []) mixed (by kernel_rfl) (by kernel_rfl) (by kernel_rfl) ?_
    refine lx_loada 3 rfl rfl Tryd.isAgg50 Tryd.sizeOf50 (by simp) rfl rfl ?_
    refine lx_gl hGF Tryd.isAgg42 Tryd.sizeOf42 (by simp) (fun _ h => h.g0) rfl rfl ?_
    refine lx_buildS rfl (by simp) Tryd.underlying50 rfl Tryd.sizeOf42 zv50 rfl rfl ?_
    refine lx_call rfl rfl ent45 (fmulR_pure _) rfl rfl ?_
    refine lx_loada 5 rfl rfl Tryd.isAgg42 Tryd.sizeOf42 (by simp) rfl rfl ?_
    refine lx_call rfl rfl ent47 (felemP_pure ((bs.drop x.k).take (((bs.length - x.k) - 1) % 48 + 1)) (by rw [piece_len bs x.k _ hcut.2.1]; exact hcut.2.2)) rfl rfl ?_
    refine lx_call rfl rfl ent46 (fadd_pure _ _) rfl rfl ?_
    refine lx_storea 3 hGF rfl rfl rfl Tryd.sizeOf50 (by simp) (by simp) (one_u64 _) rfl ?_
    refine lx_nil ?_
    refine x_plain (E := EE []) ?_
    refine lx_move rfl rfl rfl ?_
    refine lx_move rfl rfl rfl ?_
    refine lx_slsl (l := (((bs.length - x.k) - 1) % 48 + 1)) (h' := (bs.length - x.k)) rfl Tryd.underlying22 Tryd.sizeOf5 rfl rfl ⟨hcut.2.1, x.hc⟩ rfl rfl ?_
    refine lx_assign rfl rfl rfl ?_
    refine lx_nil ?_
    repeat (refine kblk_n ?_)
    refine kseq_n ?_
    exact ⟨rfl, ⟨x.k + (((bs.length - x.k) - 1) % 48 + 1), _, x.c - (((bs.length - x.k) - 1) % 48 + 1), by have := x.hk; omega, by have := x.hc; omega, hnext, .inr (by rw [Nat.sub_add_eq]; exact hcut.1)⟩, _, by show bs.length - (x.k + (((bs.length - x.k) - 1) % 48 + 1)) < bs.length - x.k; omega, rfl, ⟨congrArg (fun n => some (Value.slice _ n _)) (Nat.sub_sub bs.length x.k (((bs.length - x.k) - 1) % 48 + 1)), rfl, rfl, trivial⟩, ⟨rfl, by rw [← hstep]; rfl, trivial⟩⟩
  · have hn : x.k = bs.length := by simp at hc; have := x.hk; omega
    clear hc
    refine x_exit ?_
    refine xs_plain (E := EE []) ?_
    refine lx_loada 3 rfl rfl Tryd.isAgg50 Tryd.sizeOf50 (by simp) rfl rfl ?_
    refine lx_storea 2 hGF rfl rfl rfl Tryd.sizeOf50 (by simp) (by simp) (one_u64 _) rfl ?_
    refine lx_nil ?_
    refine x_ret ?_
    repeat (first | refine kseq_ret ?_ | refine kblk_ret ?_)
    exact kret_own 2 rfl rfl rfl Tryd.isAgg50 Tryd.sizeOf50 (by simp) (fun w hw => ⟨by rw [hn]; rfl, hp_below hw⟩)
end Go.Proofs.YtlimfhjjadbjgaaDoor
