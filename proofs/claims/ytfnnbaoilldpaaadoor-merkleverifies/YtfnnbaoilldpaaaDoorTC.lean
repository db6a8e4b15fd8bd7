/-
  The document's roots; what a branch comes to; whether it proves.
-/
import Derived.Test.YtfnnbaoilldpaaaDoorTB
namespace Go.Proofs.YtfnnbaoilldpaaaDoor
open Go.RowKit
set_option maxRecDepth 100000
set_option maxHeartbeats 1000000
open Sh
theorem ent23 : Enters Tryd.prog 23 := fun _ _ => by kernel_rfl
theorem eqg29 (op : BinOp) (x y : Operand) (xs ys : Array Value) (w : World) : (eqGuard op 29 x y (.agg xs) (.agg ys)).run Tryd.prog w = .ok () w := run_eqGuard_agg w op 29 x y xs ys (by kernel_rfl)
theorem eqv29 (xs ys : List (BitVec 8)) (h : xs.length = 32) (h' : ys.length = 32) (w : World) : (binOp .eql 29 (.agg (xs.map U8).toArray) (.agg (ys.map U8).toArray)).run Tryd.prog w = .ok (.bool (decide (xs = ys))) w := bin_eq8 Tryd.underlying29 Tryd.underlying5 Tryd.sizeOf5 Tryd.isAgg5 xs ys h h' w
theorem bitU (x : BitVec 64) (i : Nat) : (x >>> i &&& 1#64 == 1#64) = x.toNat.testBit i := by
  rw [BitVec.testBit_toNat]
  have h : (x >>> i).getLsbD 0 = x.getLsbD i := by simp
  rw [← h, BitVec.and_one_eq_setWidth_ofBool_getLsbD]
  cases (x >>> i).getLsbD 0 <;> decide
theorem fldL {i : Nat} (l : List Rt) (k : Nat) (v : Rt) (h : v.length = 32) : (fld P2 i k v l).length = 32 := fld_len P2 (Q := fun x => x.length = 32) P2_len l k v h
/-- Whether a branch proves a leaf at a place under a root. -/
def vfy (leaf : Rt) (b : List Rt) (x : BitVec 64) (root : Rt) : Bool := decide (fld P2 x.toNat 0 leaf b = root) && (decide (64 ≤ b.length) || x >>> b.length == 0#64)
theorem bldZ (w : World) : (Instr.build 29 #[]).run Tryd.prog w = .ok (.agg (Z0.map U8).toArray) w := by
  simp [Instr.build, run_underlying Tryd.underlying29, Tryd.sizeOf5, Value.cells, Instr.fill]; rfl
theorem fold_calls (bm : Nat) (v0 : Rt) (hv0 : v0.length = 32) (b : List Rt) (hl : AllR b) (a : Option Addr) (cap : Nat) (x0 : BitVec 64) (hln : b.length ≤ 1000000) (w : World) (hw : Gt w) (ho : MkAt w bm) (hr : RtsAt w a b) : Calls Tryd.prog 23 [.agg [.pointer (some ⟨bm, 0, none⟩)].toArray, .agg (v0.map U8).toArray, .slice a b.length cap, U64 x0].toArray w (fun e w' => e = .returned (.agg ((fld P2 x0.toNat 0 v0 b).map U8).toArray) ∧ Grow w w') := by
  have hGF : BOk Gt (pl w) := gt_low.plain hw
  refine calls_of_X (G := Gt) Tryd.func23 rfl rfl (Hp (pl w) []) (hp_refl (pl w) trivial rides_true) (good_hp hGF) ?_
  refine xs_plain (E := EE []) ?_
  refine lx_boxr 4 hGF rfl rfl rfl ?_
  intro b4
  refine lx_boxr 5 hGF rfl rfl rfl ?_
  intro b5
  refine lx_allocr 8 hGF zv29 rfl rfl ?_
  intro b8
  refine lx_nil ?_
  refine x_seq ?_
  refine xs_plain (E := EE []) ?_
  refine lx_assign rfl rfl rfl ?_
  refine lx_nil ?_
  refine x_block ?_
  refine x_for (ι := { i : Nat // i ≤ b.length }) (fun y => [(8, .pointer (some ⟨b8, 0, none⟩)), (2, .slice a b.length cap), (3, U64 x0), (4, .pointer (some ⟨b4, 0, none⟩)), (5, .pointer (some ⟨b5, 0, none⟩)), (9, I (y.1 : Int))]) (fun y => [(8, b8, Z0.map U8, 29), (4, b4, [.pointer (some ⟨bm, 0, none⟩)], 27), (5, b5, (fld P2 x0.toNat 0 v0 (b.take y.1)).map U8, 29)]) (fun y => b.length - y.1) ⟨0, Nat.zero_le _⟩ hGF ⟨rfl, rfl, rfl, rfl, rfl, rfl, trivial⟩ ⟨rfl, rfl, rfl, trivial⟩ ?_
  rintro ⟨k, hk⟩
  dsimp only
  refine x_seq ?_
  refine xs_plain (E := EE []) ?_
  refine lx_move rfl rfl rfl ?_
  refine lx_move rfl rfl rfl ?_
  refine lx_len rfl (fun _ => len_slice Tryd.underlying22 _ _ _ _) rfl rfl ?_
  rcases Nat.lt_or_ge k b.length with hlt | hge
  · skip
    obtain ⟨x, hbx⟩ : ∃ x, b[k]? = some x := ⟨_, List.getElem?_eq_getElem hlt⟩
    have hx : x.length = 32 := hl x (List.mem_of_getElem? hbx)
    obtain ⟨ad, rfl, hxc⟩ := hr k x hbx
    refine lx_binB true rfl rfl (fun _ => rfl) (fun _ => bin_lss_i _ _ _) (by simp; omega) rfl rfl ?_
    refine lx_nil ?_
    refine x_true rfl ?_
    refine x_skip ?_
    refine x_seq ?_
    refine x_block ?_
    refine xs_plain (E := EE []) ?_
    refine lx_move rfl rfl rfl ?_
    rcases Nat.lt_or_ge k 64 with h64 | h64
    · skip
      refine lx_binB true rfl rfl (fun _ => rfl) (fun _ => bin_lss_i _ _ _) (by simp; omega) rfl rfl ?_
      refine lx_move rfl rfl rfl ?_
      refine lx_move rfl rfl rfl ?_
      refine lx_move rfl rfl rfl ?_
      refine lx_bin rfl rfl (fun _ => rfl) (fun _ => bin_shr_i_u64 _ _ _ (by omega)) rfl rfl ?_
      refine lx_bin rfl rfl (fun _ => rfl) (fun _ => bin_and_u64 _ _ _) rfl rfl ?_
      cases hbit : x0.toNat.testBit k
      · skip
        have hst := stp_f P2 (k := k) (fld P2 x0.toNat 0 v0 (b.take k)) x hbit
        refine lx_binB false rfl rfl (fun _ => rfl) (fun _ => bin_eql_u64 _ _ _) (by rw [Int.toNat_natCast, bitU]; exact hbit) rfl rfl ?_
        refine lx_pick rfl rfl rfl rfl rfl ?_
        refine lx_nil ?_
        refine x_false rfl ?_
        refine x_drawn (E := EE []) mixed (by kernel_rfl) (by kernel_rfl) (by kernel_rfl) ?_
        refine lx_fak 0 rfl Tryd.underlying27 rfl Tryd.sizeOf25 (by decide) rfl rfl rfl ?_
        refine lx_loadl 4 rfl rfl rfl Tryd.isAgg25 rfl rfl ?_
        refine lx_loada 5 rfl rfl Tryd.isAgg29 Tryd.sizeOf29 (by rw [List.length_map]; exact fldL _ _ _ hv0) rfl rfl ?_
        refine lx_move rfl rfl rfl ?_
        refine lx_move rfl rfl rfl ?_
        refine lx_isAW k 32 rfl rfl Tryd.underlying22 Tryd.sizeOf29 rfl (by omega) rfl rfl ?_
        refine lx_loadA (cs := x.map U8) rfl Tryd.isAgg29 Tryd.sizeOf29 (by rw [List.length_map]; exact hx) (fun w' h j v hv => ((hp_below h).cell (block_lt_of_cell (hxc j v hv))).trans (hxc j v hv)) rfl rfl ?_
        refine lx_callC rfl rfl ent28 (fun w' hw' hG => mpair_calls bm (fld P2 x0.toNat 0 v0 (b.take k)) x (fldL _ _ _ hv0) hx w' hG (ho.of_same ((hp_below hw').block _ ho.lt))) rfl rfl ?_
        refine lx_storea 5 hGF rfl rfl rfl Tryd.sizeOf29 (by rw [List.length_map]; exact P2_len _ _) (by rw [List.length_map]; exact fldL _ _ _ hv0) (one_u8 _) rfl ?_
        refine lx_nil ?_
        refine x_plain (E := EE []) ?_
        refine lx_move rfl rfl rfl ?_
        refine lx_bin (v := I (((k + 1 : Nat) : Int))) rfl rfl (fun _ => rfl) (fun _ => (bin_add_i _ _ _ (by unfold inI; omega)).trans (by rfl)) rfl rfl ?_
        refine lx_assign rfl rfl rfl ?_
        refine lx_nil ?_
        repeat (refine kblk_n ?_)
        refine kseq_n ?_
        exact ⟨rfl, ⟨k + 1, hlt⟩, _, by show b.length - (k + 1) < b.length - k; omega, rfl, ⟨rfl, rfl, rfl, rfl, rfl, rfl, trivial⟩, ⟨rfl, rfl, by rw [fld_take P2 _ hbx, hst]; rfl, trivial⟩⟩
      · skip
        have hst := stp_t P2 (fld P2 x0.toNat 0 v0 (b.take k)) x h64 hbit
        refine lx_binB true rfl rfl (fun _ => rfl) (fun _ => bin_eql_u64 _ _ _) (by rw [Int.toNat_natCast, bitU]; exact hbit) rfl rfl ?_
        refine lx_pick rfl rfl rfl rfl rfl ?_
        refine lx_nil ?_
        refine x_true rfl ?_
        refine x_drawn (E := EE []) mixed (by kernel_rfl) (by kernel_rfl) (by kernel_rfl) ?_
        refine lx_fak 0 rfl Tryd.underlying27 rfl Tryd.sizeOf25 (by decide) rfl rfl rfl ?_
        refine lx_loadl 4 rfl rfl rfl Tryd.isAgg25 rfl rfl ?_
        refine lx_move rfl rfl rfl ?_
        refine lx_move rfl rfl rfl ?_
        refine lx_isAW k 32 rfl rfl Tryd.underlying22 Tryd.sizeOf29 rfl (by omega) rfl rfl ?_
        refine lx_loadA (cs := x.map U8) rfl Tryd.isAgg29 Tryd.sizeOf29 (by rw [List.length_map]; exact hx) (fun w' h j v hv => ((hp_below h).cell (block_lt_of_cell (hxc j v hv))).trans (hxc j v hv)) rfl rfl ?_
        refine lx_loada 5 rfl rfl Tryd.isAgg29 Tryd.sizeOf29 (by rw [List.length_map]; exact fldL _ _ _ hv0) rfl rfl ?_
        refine lx_callC rfl rfl ent28 (fun w' hw' hG => mpair_calls bm x (fld P2 x0.toNat 0 v0 (b.take k)) hx (fldL _ _ _ hv0) w' hG (ho.of_same ((hp_below hw').block _ ho.lt))) rfl rfl ?_
        refine lx_storea 5 hGF rfl rfl rfl Tryd.sizeOf29 (by rw [List.length_map]; exact P2_len _ _) (by rw [List.length_map]; exact fldL _ _ _ hv0) (one_u8 _) rfl ?_
        refine lx_nil ?_
        refine x_plain (E := EE []) ?_
        refine lx_move rfl rfl rfl ?_
        refine lx_bin (v := I (((k + 1 : Nat) : Int))) rfl rfl (fun _ => rfl) (fun _ => (bin_add_i _ _ _ (by unfold inI; omega)).trans (by rfl)) rfl rfl ?_
        refine lx_assign rfl rfl rfl ?_
        refine lx_nil ?_
        repeat (refine kblk_n ?_)
        refine kseq_n ?_
        exact ⟨rfl, ⟨k + 1, hlt⟩, _, by show b.length - (k + 1) < b.length - k; omega, rfl, ⟨rfl, rfl, rfl, rfl, rfl, rfl, trivial⟩, ⟨rfl, rfl, by rw [fld_take P2 _ hbx, hst]; rfl, trivial⟩⟩
    · skip
      have hst := stp_g P2 (i := x0.toNat) (fld P2 x0.toNat 0 v0 (b.take k)) x h64
      refine lx_binB false rfl rfl (fun _ => rfl) (fun _ => bin_lss_i _ _ _) (by simp; omega) rfl rfl ?_
      refine lx_move rfl rfl rfl ?_
      refine lx_skip rfl rfl rfl ?_
      refine lx_skip rfl rfl rfl ?_
      refine lx_skip rfl rfl rfl ?_
      refine lx_skip rfl rfl rfl ?_
      refine lx_skip rfl rfl rfl ?_
      refine lx_pick rfl rfl rfl rfl rfl ?_
      refine lx_nil ?_
      refine x_false rfl ?_
      refine x_drawn (E := EE []) mixed (by kernel_rfl) (by kernel_rfl) (by kernel_rfl) ?_
      refine lx_fak 0 rfl Tryd.underlying27 rfl Tryd.sizeOf25 (by decide) rfl rfl rfl ?_
      refine lx_loadl 4 rfl rfl rfl Tryd.isAgg25 rfl rfl ?_
      refine lx_loada 5 rfl rfl Tryd.isAgg29 Tryd.sizeOf29 (by rw [List.length_map]; exact fldL _ _ _ hv0) rfl rfl ?_
      refine lx_move rfl rfl rfl ?_
      refine lx_move rfl rfl rfl ?_
      refine lx_isAW k 32 rfl rfl Tryd.underlying22 Tryd.sizeOf29 rfl (by omega) rfl rfl ?_
      refine lx_loadA (cs := x.map U8) rfl Tryd.isAgg29 Tryd.sizeOf29 (by rw [List.length_map]; exact hx) (fun w' h j v hv => ((hp_below h).cell (block_lt_of_cell (hxc j v hv))).trans (hxc j v hv)) rfl rfl ?_
      refine lx_callC rfl rfl ent28 (fun w' hw' hG => mpair_calls bm (fld P2 x0.toNat 0 v0 (b.take k)) x (fldL _ _ _ hv0) hx w' hG (ho.of_same ((hp_below hw').block _ ho.lt))) rfl rfl ?_
      refine lx_storea 5 hGF rfl rfl rfl Tryd.sizeOf29 (by rw [List.length_map]; exact P2_len _ _) (by rw [List.length_map]; exact fldL _ _ _ hv0) (one_u8 _) rfl ?_
      refine lx_nil ?_
      refine x_plain (E := EE []) ?_
      refine lx_move rfl rfl rfl ?_
      refine lx_bin (v := I (((k + 1 : Nat) : Int))) rfl rfl (fun _ => rfl) (fun _ => (bin_add_i _ _ _ (by unfold inI; omega)).trans (by rfl)) rfl rfl ?_
      refine lx_assign rfl rfl rfl ?_
      refine lx_nil ?_
      repeat (refine kblk_n ?_)
      refine kseq_n ?_
      exact ⟨rfl, ⟨k + 1, hlt⟩, _, by show b.length - (k + 1) < b.length - k; omega, rfl, ⟨rfl, rfl, rfl, rfl, rfl, rfl, trivial⟩, ⟨rfl, rfl, by rw [fld_take P2 _ hbx, hst]; rfl, trivial⟩⟩
  · skip
    obtain rfl : k = b.length := by omega
    rw [List.take_length]
    refine lx_binB false rfl rfl (fun _ => rfl) (fun _ => bin_lss_i _ _ _) (by rw [decide_eq_false_iff_not]; omega) rfl rfl ?_
    refine lx_nil ?_
    refine x_false rfl ?_
    refine x_exit ?_
    refine xs_plain (E := EE []) ?_
    refine lx_loada 5 rfl rfl Tryd.isAgg29 Tryd.sizeOf29 (by rw [List.length_map]; exact fldL _ _ _ hv0) rfl rfl ?_
    refine lx_storea 8 hGF rfl rfl rfl Tryd.sizeOf29 (by rw [List.length_map]; exact fldL _ _ _ hv0) (by rw [List.length_map]; exact Z0_len) (one_u8 _) rfl ?_
    refine lx_nil ?_
    refine x_ret ?_
    repeat (first | refine kseq_ret ?_ | refine kblk_ret ?_)
    exact kret_own 8 rfl rfl rfl Tryd.isAgg29 Tryd.sizeOf29 (by rw [List.length_map]; exact fldL _ _ _ hv0) (fun w' hw' => ⟨rfl, hp_below hw'⟩)
theorem hver_calls (bm : Nat) (v0 : Rt) (hv0 : v0.length = 32) (b : List Rt) (hl : AllR b) (a : Option Addr) (cap : Nat) (x0 : BitVec 64) (root : Rt) (hroot : root.length = 32) (hln : b.length ≤ 1000000) (w : World) (hw : Gt w) (ho : MkAt w bm) (hr : RtsAt w a b) : Calls Tryd.prog 24 [.agg [.pointer (some ⟨bm, 0, none⟩)].toArray, .agg (v0.map U8).toArray, .slice a b.length cap, U64 x0, .agg (root.map U8).toArray].toArray w (fun e w' => e = .returned (.bool (vfy v0 b x0 root)) ∧ Grow w w') := by
  have hGF : BOk Gt (pl w) := gt_low.plain hw
  refine calls_of_X (G := Gt) Tryd.func24 rfl rfl (Hp (pl w) []) (hp_refl (pl w) trivial rides_true) (good_hp hGF) ?_
  refine xs_plain (E := EE []) ?_
  refine lx_boxr 5 hGF rfl rfl rfl ?_
  intro b5
  refine lx_boxr 6 hGF rfl rfl rfl ?_
  intro b6
  refine lx_boxr 9 hGF rfl rfl rfl ?_
  intro b9
  refine lx_assign rfl rfl rfl ?_
  refine lx_nil ?_
  refine xs_plain (E := EE []) ?_
  refine lx_loada 6 rfl rfl Tryd.isAgg29 Tryd.sizeOf29 (by rw [List.length_map]; exact hv0) rfl rfl ?_
  refine lx_allocr 11 hGF zv29 rfl rfl ?_
  intro b11
  refine lx_storea 11 hGF rfl rfl rfl Tryd.sizeOf29 (by rw [List.length_map]; exact hv0) (by rw [List.length_map]; exact Z0_len) (one_u8 _) rfl ?_
  refine lx_nil ?_
  refine x_seq ?_
  refine xs_plain (E := EE []) ?_
  refine lx_assign rfl rfl rfl ?_
  refine lx_nil ?_
  refine x_block ?_
  refine x_for (ι := { i : Nat // i ≤ b.length }) (fun y => [(6, .pointer (some ⟨b6, 0, none⟩)), (9, .pointer (some ⟨b9, 0, none⟩)), (2, .slice a b.length cap), (3, U64 x0), (5, .pointer (some ⟨b5, 0, none⟩)), (11, .pointer (some ⟨b11, 0, none⟩)), (12, I (y.1 : Int))]) (fun y => [(6, b6, v0.map U8, 29), (9, b9, root.map U8, 29), (5, b5, [.pointer (some ⟨bm, 0, none⟩)], 27), (11, b11, (fld P2 x0.toNat 0 v0 (b.take y.1)).map U8, 29)]) (fun y => b.length - y.1) ⟨0, Nat.zero_le _⟩ hGF ⟨rfl, rfl, rfl, rfl, rfl, rfl, rfl, trivial⟩ ⟨rfl, rfl, rfl, rfl, trivial⟩ ?_
  rintro ⟨k, hk⟩
  dsimp only
  refine x_seq ?_
  refine xs_plain (E := EE []) ?_
  refine lx_move rfl rfl rfl ?_
  refine lx_move rfl rfl rfl ?_
  refine lx_len rfl (fun _ => len_slice Tryd.underlying22 _ _ _ _) rfl rfl ?_
  rcases Nat.lt_or_ge k b.length with hlt | hge
  · skip
    obtain ⟨x, hbx⟩ : ∃ x, b[k]? = some x := ⟨_, List.getElem?_eq_getElem hlt⟩
    have hx : x.length = 32 := hl x (List.mem_of_getElem? hbx)
    obtain ⟨ad, rfl, hxc⟩ := hr k x hbx
    refine lx_binB true rfl rfl (fun _ => rfl) (fun _ => bin_lss_i _ _ _) (by simp; omega) rfl rfl ?_
    refine lx_nil ?_
    refine x_true rfl ?_
    refine x_skip ?_
    refine x_seq ?_
    refine x_block ?_
    refine xs_plain (E := EE []) ?_
    refine lx_move rfl rfl rfl ?_
    rcases Nat.lt_or_ge k 64 with h64 | h64
    · skip
      refine lx_binB true rfl rfl (fun _ => rfl) (fun _ => bin_lss_i _ _ _) (by simp; omega) rfl rfl ?_
      refine lx_move rfl rfl rfl ?_
      refine lx_move rfl rfl rfl ?_
      refine lx_move rfl rfl rfl ?_
      refine lx_bin rfl rfl (fun _ => rfl) (fun _ => bin_shr_i_u64 _ _ _ (by omega)) rfl rfl ?_
      refine lx_bin rfl rfl (fun _ => rfl) (fun _ => bin_and_u64 _ _ _) rfl rfl ?_
      cases hbit : x0.toNat.testBit k
      · skip
        have hst := stp_f P2 (k := k) (fld P2 x0.toNat 0 v0 (b.take k)) x hbit
        refine lx_binB false rfl rfl (fun _ => rfl) (fun _ => bin_eql_u64 _ _ _) (by rw [Int.toNat_natCast, bitU]; exact hbit) rfl rfl ?_
        refine lx_pick rfl rfl rfl rfl rfl ?_
        refine lx_nil ?_
        refine x_false rfl ?_
        refine x_drawn (E := EE []) mixed (by kernel_rfl) (by kernel_rfl) (by kernel_rfl) ?_
        refine lx_fak 0 rfl Tryd.underlying27 rfl Tryd.sizeOf25 (by decide) rfl rfl rfl ?_
        refine lx_loadl 5 rfl rfl rfl Tryd.isAgg25 rfl rfl ?_
        refine lx_loada 11 rfl rfl Tryd.isAgg29 Tryd.sizeOf29 (by rw [List.length_map]; exact fldL _ _ _ hv0) rfl rfl ?_
        refine lx_move rfl rfl rfl ?_
        refine lx_move rfl rfl rfl ?_
        refine lx_isAW k 32 rfl rfl Tryd.underlying22 Tryd.sizeOf29 rfl (by omega) rfl rfl ?_
        refine lx_loadA (cs := x.map U8) rfl Tryd.isAgg29 Tryd.sizeOf29 (by rw [List.length_map]; exact hx) (fun w' h j v hv => ((hp_below h).cell (block_lt_of_cell (hxc j v hv))).trans (hxc j v hv)) rfl rfl ?_
        refine lx_callC rfl rfl ent28 (fun w' hw' hG => mpair_calls bm (fld P2 x0.toNat 0 v0 (b.take k)) x (fldL _ _ _ hv0) hx w' hG (ho.of_same ((hp_below hw').block _ ho.lt))) rfl rfl ?_
        refine lx_storea 11 hGF rfl rfl rfl Tryd.sizeOf29 (by rw [List.length_map]; exact P2_len _ _) (by rw [List.length_map]; exact fldL _ _ _ hv0) (one_u8 _) rfl ?_
        refine lx_nil ?_
        refine x_plain (E := EE []) ?_
        refine lx_move rfl rfl rfl ?_
        refine lx_bin (v := I (((k + 1 : Nat) : Int))) rfl rfl (fun _ => rfl) (fun _ => (bin_add_i _ _ _ (by unfold inI; omega)).trans (by rfl)) rfl rfl ?_
        refine lx_assign rfl rfl rfl ?_
        refine lx_nil ?_
        repeat (refine kblk_n ?_)
        refine kseq_n ?_
        exact ⟨rfl, ⟨k + 1, hlt⟩, _, by show b.length - (k + 1) < b.length - k; omega, rfl, ⟨rfl, rfl, rfl, rfl, rfl, rfl, rfl, trivial⟩, ⟨rfl, rfl, rfl, by rw [fld_take P2 _ hbx, hst]; rfl, trivial⟩⟩
      · skip
        have hst := stp_t P2 (fld P2 x0.toNat 0 v0 (b.take k)) x h64 hbit
        refine lx_binB true rfl rfl (fun _ => rfl) (fun _ => bin_eql_u64 _ _ _) (by rw [Int.toNat_natCast, bitU]; exact hbit) rfl rfl ?_
        refine lx_pick rfl rfl rfl rfl rfl ?_
        refine lx_nil ?_
        refine x_true rfl ?_
        refine x_drawn (E := EE []) mixed (by kernel_rfl) (by kernel_rfl) (by kernel_rfl) ?_
        refine lx_fak 0 rfl Tryd.underlying27 rfl Tryd.sizeOf25 (by decide) rfl rfl rfl ?_
        refine lx_loadl 5 rfl rfl rfl Tryd.isAgg25 rfl rfl ?_
        refine lx_move rfl rfl rfl ?_
        refine lx_move rfl rfl rfl ?_
        refine lx_isAW k 32 rfl rfl Tryd.underlying22 Tryd.sizeOf29 rfl (by omega) rfl rfl ?_
        refine lx_loadA (cs := x.map U8) rfl Tryd.isAgg29 Tryd.sizeOf29 (by rw [List.length_map]; exact hx) (fun w' h j v hv => ((hp_below h).cell (block_lt_of_cell (hxc j v hv))).trans (hxc j v hv)) rfl rfl ?_
        refine lx_loada 11 rfl rfl Tryd.isAgg29 Tryd.sizeOf29 (by rw [List.length_map]; exact fldL _ _ _ hv0) rfl rfl ?_
        refine lx_callC rfl rfl ent28 (fun w' hw' hG => mpair_calls bm x (fld P2 x0.toNat 0 v0 (b.take k)) hx (fldL _ _ _ hv0) w' hG (ho.of_same ((hp_below hw').block _ ho.lt))) rfl rfl ?_
        refine lx_storea 11 hGF rfl rfl rfl Tryd.sizeOf29 (by rw [List.length_map]; exact P2_len _ _) (by rw [List.length_map]; exact fldL _ _ _ hv0) (one_u8 _) rfl ?_
        refine lx_nil ?_
        refine x_plain (E := EE []) ?_
        refine lx_move rfl rfl rfl ?_
        refine lx_bin (v := I (((k + 1 : Nat) : Int))) rfl rfl (fun _ => rfl) (fun _ => (bin_add_i _ _ _ (by unfold inI; omega)).trans (by rfl)) rfl rfl ?_
        refine lx_assign rfl rfl rfl ?_
        refine lx_nil ?_
        repeat (refine kblk_n ?_)
        refine kseq_n ?_
        exact ⟨rfl, ⟨k + 1, hlt⟩, _, by show b.length - (k + 1) < b.length - k; omega, rfl, ⟨rfl, rfl, rfl, rfl, rfl, rfl, rfl, trivial⟩, ⟨rfl, rfl, rfl, by rw [fld_take P2 _ hbx, hst]; rfl, trivial⟩⟩
    · skip
      have hst := stp_g P2 (i := x0.toNat) (fld P2 x0.toNat 0 v0 (b.take k)) x h64
      refine lx_binB false rfl rfl (fun _ => rfl) (fun _ => bin_lss_i _ _ _) (by simp; omega) rfl rfl ?_
      refine lx_move rfl rfl rfl ?_
      refine lx_skip rfl rfl rfl ?_
      refine lx_skip rfl rfl rfl ?_
      refine lx_skip rfl rfl rfl ?_
      refine lx_skip rfl rfl rfl ?_
      refine lx_skip rfl rfl rfl ?_
      refine lx_pick rfl rfl rfl rfl rfl ?_
      refine lx_nil ?_
      refine x_false rfl ?_
      refine x_drawn (E := EE []) mixed (by kernel_rfl) (by kernel_rfl) (by kernel_rfl) ?_
      refine lx_fak 0 rfl Tryd.underlying27 rfl Tryd.sizeOf25 (by decide) rfl rfl rfl ?_
      refine lx_loadl 5 rfl rfl rfl Tryd.isAgg25 rfl rfl ?_
      refine lx_loada 11 rfl rfl Tryd.isAgg29 Tryd.sizeOf29 (by rw [List.length_map]; exact fldL _ _ _ hv0) rfl rfl ?_
      refine lx_move rfl rfl rfl ?_
      refine lx_move rfl rfl rfl ?_
      refine lx_isAW k 32 rfl rfl Tryd.underlying22 Tryd.sizeOf29 rfl (by omega) rfl rfl ?_
      refine lx_loadA (cs := x.map U8) rfl Tryd.isAgg29 Tryd.sizeOf29 (by rw [List.length_map]; exact hx) (fun w' h j v hv => ((hp_below h).cell (block_lt_of_cell (hxc j v hv))).trans (hxc j v hv)) rfl rfl ?_
      refine lx_callC rfl rfl ent28 (fun w' hw' hG => mpair_calls bm (fld P2 x0.toNat 0 v0 (b.take k)) x (fldL _ _ _ hv0) hx w' hG (ho.of_same ((hp_below hw').block _ ho.lt))) rfl rfl ?_
      refine lx_storea 11 hGF rfl rfl rfl Tryd.sizeOf29 (by rw [List.length_map]; exact P2_len _ _) (by rw [List.length_map]; exact fldL _ _ _ hv0) (one_u8 _) rfl ?_
      refine lx_nil ?_
      refine x_plain (E := EE []) ?_
      refine lx_move rfl rfl rfl ?_
      refine lx_bin (v := I (((k + 1 : Nat) : Int))) rfl rfl (fun _ => rfl) (fun _ => (bin_add_i _ _ _ (by unfold inI; omega)).trans (by rfl)) rfl rfl ?_
      refine lx_assign rfl rfl rfl ?_
      refine lx_nil ?_
      repeat (refine kblk_n ?_)
      refine kseq_n ?_
      exact ⟨rfl, ⟨k + 1, hlt⟩, _, by show b.length - (k + 1) < b.length - k; omega, rfl, ⟨rfl, rfl, rfl, rfl, rfl, rfl, rfl, trivial⟩, ⟨rfl, rfl, rfl, by rw [fld_take P2 _ hbx, hst]; rfl, trivial⟩⟩
  · skip
    obtain rfl : k = b.length := by omega
    rw [List.take_length]
    refine lx_binB false rfl rfl (fun _ => rfl) (fun _ => bin_lss_i _ _ _) (by rw [decide_eq_false_iff_not]; omega) rfl rfl ?_
    refine lx_nil ?_
    refine x_false rfl ?_
    refine x_exit ?_
    refine xs_plain (E := EE []) ?_
    refine lx_loada 11 rfl rfl Tryd.isAgg29 Tryd.sizeOf29 (by rw [List.length_map]; exact fldL _ _ _ hv0) rfl rfl ?_
    refine lx_loada 9 rfl rfl Tryd.isAgg29 Tryd.sizeOf29 (by rw [List.length_map]; exact hroot) rfl rfl ?_
    by_cases hv : (fld P2 x0.toNat 0 v0 b) = root
    · skip
      refine lx_binB true rfl rfl (fun w' => eqg29 _ _ _ _ _ w') (fun w' => eqv29 _ _ (fldL _ _ _ hv0) hroot w') (decide_eq_true hv) rfl rfl ?_
      refine lx_move rfl rfl rfl ?_
      refine lx_move rfl rfl rfl ?_
      refine lx_len rfl (fun _ => len_slice Tryd.underlying22 _ _ _ _) rfl rfl ?_
      rcases Nat.lt_or_ge b.length 64 with h6 | h6
      · skip
        refine lx_binB false rfl rfl (fun _ => rfl) (fun _ => bin_geq_i _ _ _) (by simp; omega) rfl rfl ?_
        refine lx_move rfl rfl rfl ?_
        refine lx_move rfl rfl rfl ?_
        refine lx_move rfl rfl rfl ?_
        refine lx_len rfl (fun _ => len_slice Tryd.underlying22 _ _ _ _) rfl rfl ?_
        refine lx_bin rfl rfl (fun _ => rfl) (fun _ => bin_shr_i_u64 _ _ _ (by omega)) rfl rfl ?_
        cases hz : (x0 >>> b.length == 0#64)
        · skip
          have hR : vfy v0 b x0 root = false := by simp [vfy, hz, h6]
          refine lx_binB false rfl rfl (fun _ => rfl) (fun _ => bin_eql_u64 _ _ _) (by rw [Int.toNat_natCast]; exact hz) rfl rfl ?_
          refine lx_pick rfl rfl rfl rfl rfl ?_
          refine lx_pick rfl rfl rfl rfl rfl ?_
          refine lx_assign rfl rfl rfl ?_
          refine lx_nil ?_
          refine x_ret ?_
          repeat (first | refine kseq_ret ?_ | refine kblk_ret ?_)
          exact kret_tmp rfl rfl (fun w' hw' => ⟨by rw [hR]; rfl, hp_below hw'⟩)
        · skip
          have hR : vfy v0 b x0 root = true := by simp [vfy, hv, hz]
          refine lx_binB true rfl rfl (fun _ => rfl) (fun _ => bin_eql_u64 _ _ _) (by rw [Int.toNat_natCast]; exact hz) rfl rfl ?_
          refine lx_pick rfl rfl rfl rfl rfl ?_
          refine lx_pick rfl rfl rfl rfl rfl ?_
          refine lx_assign rfl rfl rfl ?_
          refine lx_nil ?_
          refine x_ret ?_
          repeat (first | refine kseq_ret ?_ | refine kblk_ret ?_)
          exact kret_tmp rfl rfl (fun w' hw' => ⟨by rw [hR]; rfl, hp_below hw'⟩)
      · skip
        have hR : vfy v0 b x0 root = true := by simp [vfy, hv, h6]
        refine lx_binB true rfl rfl (fun _ => rfl) (fun _ => bin_geq_i _ _ _) (by simp; omega) rfl rfl ?_
        refine lx_move rfl rfl rfl ?_
        refine lx_skip rfl rfl rfl ?_
        refine lx_skip rfl rfl rfl ?_
        refine lx_skip rfl rfl rfl ?_
        refine lx_skip rfl rfl rfl ?_
        refine lx_skip rfl rfl rfl ?_
        refine lx_pick rfl rfl rfl rfl rfl ?_
        refine lx_pick rfl rfl rfl rfl rfl ?_
        refine lx_assign rfl rfl rfl ?_
        refine lx_nil ?_
        refine x_ret ?_
        repeat (first | refine kseq_ret ?_ | refine kblk_ret ?_)
        exact kret_tmp rfl rfl (fun w' hw' => ⟨by rw [hR]; rfl, hp_below hw'⟩)
    · skip
      have hR : vfy v0 b x0 root = false := by simp [vfy, hv]
      refine lx_binB false rfl rfl (fun w' => eqg29 _ _ _ _ _ w') (fun w' => eqv29 _ _ (fldL _ _ _ hv0) hroot w') (decide_eq_false hv) rfl rfl ?_
      refine lx_move rfl rfl rfl ?_
      refine lx_skip rfl rfl rfl ?_
      refine lx_skip rfl rfl rfl ?_
      refine lx_skip rfl rfl rfl ?_
      refine lx_skip rfl rfl rfl ?_
      refine lx_skip rfl rfl rfl ?_
      refine lx_skip rfl rfl rfl ?_
      refine lx_skip rfl rfl rfl ?_
      refine lx_skip rfl rfl rfl ?_
      refine lx_skip rfl rfl rfl ?_
      refine lx_skip rfl rfl rfl ?_
      refine lx_pick rfl rfl rfl rfl rfl ?_
      refine lx_assign rfl rfl rfl ?_
      refine lx_nil ?_
      refine x_ret ?_
      repeat (first | refine kseq_ret ?_ | refine kblk_ret ?_)
      exact kret_tmp rfl rfl (fun w' hw' => ⟨by rw [hR]; rfl, hp_below hw'⟩)
end Go.Proofs.YtfnnbaoilldpaaaDoor
