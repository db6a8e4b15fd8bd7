/-
  The document's roots; what a branch comes to; whether it proves.
-/
import Derived.Test.YtfnnbaoilldpaaaDoorTB
namespace Go.Proofs.YtfnnbaoilldpaaaDoor
open Go.RowKit
set_option maxRecDepth 100000
set_option maxHeartbeats 1000000
open Sh
theorem eqg29 (op : BinOp) (x y : Operand) (xs ys : Array Value) (w : World) : (eqGuard op 29 x y (.agg xs) (.agg ys)).run Tryd.prog w = .ok () w := run_eqGuard_agg w op 29 x y xs ys (by kernel_rfl)
theorem eqv29 (xs ys : List (BitVec 8)) (h : xs.length = 32) (h' : ys.length = 32) (w : World) : (binOp .eql 29 (.agg (xs.map U8).toArray) (.agg (ys.map U8).toArray)).run Tryd.prog w = .ok (.bool (decide (xs = ys))) w := bin_eq8 Tryd.underlying29 Tryd.underlying5 Tryd.sizeOf5 Tryd.isAgg5 xs ys h h' w
theorem bitU (x : BitVec 64) (i : Nat) : (x >>> i &&& 1#64 == 1#64) = x.toNat.testBit i := by
  rw [BitVec.testBit_toNat]
  have h : (x >>> i).getLsbD 0 = x.getLsbD i := by simp
  rw [← h, BitVec.and_one_eq_setWidth_ofBool_getLsbD]
  cases (x >>> i).getLsbD 0 <;> decide
theorem fldL {i : Nat} (l : List Rt) (k : Nat) (v : Rt) (h : v.length = 32) : (fld P2 i k v l).length = 32 := fld_len P2 (Q := fun x => x.length = 32) P2_len l k v h
/-- Whether a branch proves a leaf at a place under a root. -/
def vfy (leaf : Rt) (b : List Rt) (x : BitVec 64) (root : Rt) : Bool := decide (fld P2 x.toNat 0 leaf b = root) && (decide (64 ≤ b.length) || x >>> b.length == 0#64)
theorem bldZ (w : World) : (Instr.build 29 #[]).run Tryd.prog w = .ok (.agg (Z0.map U8).toArray) w := by
  simp [Instr.build, run_underlying Tryd.underlying29, Tryd.sizeOf5, Value.cells, Instr.fill]; rfl
theorem hroot_n (bm : Nat) (n : Int) (a : Option Addr) (len cap : Nat) (hn : n.toNat < len) (w : World) (hw : Gt w) : Calls Tryd.prog 14 [.agg [.pointer (some ⟨bm, 0, none⟩)].toArray, .slice a len cap, I n].toArray w (fun e w' => e = .returned (.tuple #[.agg ((Z0).map U8).toArray, I 180]) ∧ Grow w w') := by
  have hGF : BOk Gt (pl w) := gt_low.plain hw
  refine calls_of_X (G := Gt) Tryd.func14 rfl rfl (Hp (pl w) []) (hp_refl (pl w) trivial rides_true) (good_hp hGF) ?_
  refine xs_plain (E := EE []) ?_
  refine lx_boxr 3 hGF rfl rfl rfl ?_
  intro b3
  refine lx_allocr 6 hGF zv29 rfl rfl ?_
  intro b6
  refine lx_assign rfl rfl rfl ?_
  refine lx_nil ?_
  refine x_seq ?_
  refine xs_plain (E := EE []) ?_
  refine lx_move rfl rfl rfl ?_
  refine lx_len rfl (fun _ => len_slice Tryd.underlying22 _ _ _ _) rfl rfl ?_
  refine lx_move rfl rfl rfl ?_
  refine lx_max (z := (if n < 0 then 0 else n)) rfl rfl rfl rfl rfl ?_
  refine lx_binB true rfl rfl (fun _ => rfl) (fun _ => bin_gtr_i _ _ _) (by rw [decide_eq_true_eq]; split <;> omega) rfl rfl ?_
  refine lx_nil ?_
  refine x_true rfl ?_
  refine xs_plain (E := EE []) ?_
  refine lx_build (ps := []) (vs := []) (v := .agg (Z0.map U8).toArray) rfl (fun w => bldZ w) rfl rfl ?_
  refine lx_storea 6 hGF rfl rfl rfl Tryd.sizeOf29 (by rw [List.length_map]; exact Z0_len) (by rw [List.length_map]; exact Z0_len) (one_u8 _) rfl ?_
  refine lx_assign rfl rfl rfl ?_
  refine lx_nil ?_
  refine x_ret ?_
  repeat (first | refine kseq_ret ?_ | refine kblk_ret ?_)
  exact kret_ct 6 rfl rfl rfl rfl Tryd.isAgg29 Tryd.sizeOf29 (by rw [List.length_map]; exact Z0_len) (fun w' hw' => ⟨rfl, hp_below hw'⟩)
theorem hroot_y (bm : Nat) (n : Int) (l : List Rt) (hl : AllR l) (len : Nat) (hlen : l.length = len) (hln : len ≤ 1000000) (a : Option Addr) (cap : Nat) (hc : len ≤ cap) (hn : ¬ n.toNat < len) (w : World) (hw : Gt w) (ho : MkAt w bm) (hr : RtsAt w a l) : Calls Tryd.prog 14 [.agg [.pointer (some ⟨bm, 0, none⟩)].toArray, .slice a len cap, I n].toArray w (fun e w' => e = .returned (.tuple #[.agg ((tre P2 Z0 (dep n.toNat) l).map U8).toArray, I 0]) ∧ Grow w w') := by
  have hGF : BOk Gt (pl w) := gt_low.plain hw
  refine calls_of_X (G := Gt) Tryd.func14 rfl rfl (Hp (pl w) []) (hp_refl (pl w) trivial rides_true) (good_hp hGF) ?_
  refine xs_plain (E := EE []) ?_
  refine lx_boxr 3 hGF rfl rfl rfl ?_
  intro b3
  refine lx_allocr 6 hGF zv29 rfl rfl ?_
  intro b6
  refine lx_assign rfl rfl rfl ?_
  refine lx_nil ?_
  refine x_seq ?_
  refine xs_plain (E := EE []) ?_
  refine lx_move rfl rfl rfl ?_
  refine lx_len rfl (fun _ => len_slice Tryd.underlying22 _ _ _ _) rfl rfl ?_
  refine lx_move rfl rfl rfl ?_
  refine lx_max (z := (if n < 0 then 0 else n)) rfl rfl rfl rfl rfl ?_
  refine lx_binB false rfl rfl (fun _ => rfl) (fun _ => bin_gtr_i _ _ _) (by rw [decide_eq_false_iff_not]; split <;> omega) rfl rfl ?_
  refine lx_nil ?_
  refine x_false rfl ?_
  refine x_skip ?_
  refine xs_drawn (E := EE []) mixed (by kernel_rfl) (by kernel_rfl) (by kernel_rfl) ?_
  refine lx_loada 3 rfl rfl Tryd.isAgg27 Tryd.sizeOf27 rfl rfl rfl ?_
  refine lx_move rfl rfl rfl ?_
  refine lx_move rfl rfl rfl ?_
  refine lx_callC rfl rfl ent27 (fun w' _ hG => hdepth_calls n w' hG) rfl rfl ?_
  refine lx_callC rfl rfl ent21 (fun w' hw' hG => htree_calls bm _ (by have := (dep_is n.toNat).1; omega) l hl len hlen hln a cap hc w' hG (ho.of_same ((hp_below hw').block _ ho.lt)) (hr.grow (hp_below hw'))) rfl rfl ?_
  refine lx_storea 6 hGF rfl rfl rfl Tryd.sizeOf29 (by rw [List.length_map]; exact tre_len hl _) (by rw [List.length_map]; exact Z0_len) (one_u8 _) rfl ?_
  refine lx_assign rfl rfl rfl ?_
  refine lx_nil ?_
  refine x_ret ?_
  repeat (first | refine kseq_ret ?_ | refine kblk_ret ?_)
  exact kret_ct 6 rfl rfl rfl rfl Tryd.isAgg29 Tryd.sizeOf29 (by rw [List.length_map]; exact tre_len hl _) (fun w' hw' => ⟨rfl, hp_below hw'⟩)
end Go.Proofs.YtfnnbaoilldpaaaDoor
