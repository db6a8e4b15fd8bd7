/-
  The laws of roots and of proving.
-/
import Derived.Test.YtfnnbaoilldpaaaDoorTE
namespace Go.Proofs.YtfnnbaoilldpaaaDoor
open Go.RowKit
set_option maxRecDepth 100000
set_option maxHeartbeats 1000000
open Sh
theorem le_i60 (len : Nat) (t : TypeId) (w : World) : (binOp .leq t (I (len : Int)) (I 60)).run Tryd.prog w = .ok (.bool (decide (len ≤ 60))) w := by
  rw [bin_leq_i]
  congr 2
  exact decide_eq_decide.2 (by omega)
theorem lig_calls (len : Nat) (a : Option Addr) (cap : Nat) (w : World) (hw : Gt w) : Calls Tryd.prog 11 [.slice a len cap].toArray w (fun e w' => e = .returned (.bool (decide (len ≤ 60))) ∧ Grow w w') := by
  have hGF : BOk Gt (pl w) := gt_low.plain hw
  refine calls_of_X (G := Gt) Tryd.func11 rfl rfl (Hp (pl w) []) (hp_refl (pl w) trivial rides_true) (good_hp hGF) ?_
  refine xs_plain (E := EE []) ?_
  refine lx_assign rfl rfl rfl ?_
  refine lx_nil ?_
  refine xs_plain (E := EE []) ?_
  refine lx_move rfl rfl rfl ?_
  refine lx_len rfl (fun _ => len_slice Tryd.underlying22 _ _ _ _) rfl rfl ?_
  refine lx_bin (v := .bool (decide (len ≤ 60))) rfl rfl (fun _ => rfl) (fun w => le_i60 len _ w) rfl rfl ?_
  refine lx_assign rfl rfl rfl ?_
  refine lx_nil ?_
  refine x_ret ?_
  repeat (first | refine kseq_ret ?_ | refine kblk_ret ?_)
  exact kret_tmp rfl rfl (fun w' hw' => ⟨rfl, hp_below hw'⟩)
theorem dep_min (n : Int) : dep (if (4611686018427387904 : Int) < n then (4611686018427387904 : Int) else n).toNat = dep n.toNat := by
  split
  · rename_i h
    have e : (4611686018427387904 : Int).toNat = 2 ^ 62 := by decide
    rw [e, dep_pow (Nat.le_refl 62)]
    refine dep_of (Nat.le_refl _) (.inl rfl) fun k hk => ?_
    have : 2 ^ k ≤ 2 ^ 61 := Nat.pow_le_pow_right (by decide) (by omega)
    have h2 : (2 : Nat) ^ 61 = 2305843009213693952 := by decide
    omega
  · rfl
theorem zmax (d : Int) : min (if d < 0 then 0 else d).toNat 64 = min d.toNat 64 := by
  split <;> omega
theorem roots_g (hM : MerkleP) (a : Option Addr) (cap : Nat) (l : List Rt) (n d : Int) (hlt : ¬ l.length ≤ 60) (w : World) (hw : Gt w) : Calls Tryd.prog 3 [.slice a l.length cap, I n, I d].toArray w (fun e w' => e = .returned (.bool true) ∧ Grow w w') := by
  have hGF : BOk Gt (pl w) := gt_low.plain hw
  refine calls_of_X (G := Gt) Tryd.func3 rfl rfl (Hp (pl w) []) (hp_refl (pl w) trivial rides_true) (good_hp hGF) ?_
  refine xs_plain (E := EE [12]) ?_
  refine lx_assign rfl rfl rfl ?_
  refine lx_nil ?_
  refine x_seq ?_
  refine xs_plain (E := EE [12]) ?_
  refine lx_callC rfl rfl ent10 (fun w1 _ hG => known18 hM w1 hG) rfl rfl ?_
  refine lx_un rfl (fun _ => un_not _) rfl rfl ?_
  refine lx_nil ?_
  refine x_false rfl ?_
  refine x_skip ?_
  refine x_seq ?_
  refine xs_plain (E := EE [12]) ?_
  refine lx_move rfl rfl rfl ?_
  refine lx_callC rfl rfl ent11 (fun w1 _ hG => lig_calls l.length _ _ w1 hG) rfl rfl ?_
  rw [decide_eq_false (show ¬ l.length ≤ 60 from hlt)]
  refine lx_un rfl (fun _ => un_not _) rfl rfl ?_
  refine lx_nil ?_
  refine x_true rfl ?_
  refine xs_plain (E := EE [12]) ?_
  refine lx_assign rfl rfl rfl ?_
  refine lx_nil ?_
  refine x_ret ?_
  repeat (first | refine kseq_ret ?_ | refine kblk_ret ?_)
  exact kret_tmp rfl rfl (fun w' hw' => ⟨rfl, hp_below hw'⟩)
theorem roots_s (hM : MerkleP) (a : Option Addr) (cap : Nat) (l : List Rt) (hl : AllR l) (hc : l.length ≤ cap) (n d : Int) (h63 : n < 9223372036854775808) (hlt : l.length ≤ 60) (w : World) (hw : Gt w) (hr : RtsAt w a l) : Calls Tryd.prog 3 [.slice a l.length cap, I n, I d].toArray w (fun e w' => e = .returned (.bool true) ∧ Grow w w') := by
  have hGF : BOk Gt (pl w) := gt_low.plain hw
  refine calls_of_X (G := Gt) Tryd.func3 rfl rfl (Hp (pl w) []) (hp_refl (pl w) trivial rides_true) (good_hp hGF) ?_
  refine xs_plain (E := EE [12]) ?_
  refine lx_assign rfl rfl rfl ?_
  refine lx_nil ?_
  refine x_seq ?_
  refine xs_plain (E := EE [12]) ?_
  refine lx_callC rfl rfl ent10 (fun w1 _ hG => known18 hM w1 hG) rfl rfl ?_
  refine lx_un rfl (fun _ => un_not _) rfl rfl ?_
  refine lx_nil ?_
  refine x_false rfl ?_
  refine x_skip ?_
  refine x_seq ?_
  refine xs_plain (E := EE [12]) ?_
  refine lx_move rfl rfl rfl ?_
  refine lx_callC rfl rfl ent11 (fun w1 _ hG => lig_calls l.length _ _ w1 hG) rfl rfl ?_
  rw [decide_eq_true (show l.length ≤ 60 from hlt)]
  refine lx_un rfl (fun _ => un_not _) rfl rfl ?_
  refine lx_nil ?_
  refine x_false rfl ?_
  refine x_skip ?_
  refine xs_plain (E := EE [12]) ?_
  refine lx_callE rfl rfl ent12 rfl rfl (fun w1 hC => (hnew_calls w1 (hGF.g _ _ _ hC)).mono fun e1 w2 h => ?_)
  obtain ⟨bm, rfl, hg, hbm, hob⟩ := h
  refine ⟨_, _, rfl, good_hp hGF, hC.news rides_true hg [(17, bm, MK.map U32, 69)] ?_ inj_one, ?_⟩
  · intro n' b' c' t' hl
    rcases lkB_cons hl with ⟨_, e⟩ | ⟨_, hl⟩
    · cases e; exact ⟨hbm, hob⟩
    · cases hl
  clear hC hg hbm hob
  refine lx_allocr 7 hGF zvH rfl rfl ?_
  intro b7
  refine lx_storea 7 hGF rfl rfl rfl Tryd.sizeOf27 rfl rfl (by rfl) rfl ?_
  refine lx_nil ?_
  refine xs_plain (E := EE [12]) ?_
  refine lx_move rfl rfl rfl ?_
  refine lx_move rfl rfl rfl ?_
  by_cases hn : n.toNat < l.length
  · skip
    refine lx_callC rfl rfl ent13 (fun w' _ hG => hM.rootN n a _ cap w' hG hn (by omega)) rfl rfl ?_
    refine lx_move rfl rfl rfl ?_
    refine lx_ext rfl rfl rfl rfl ?_
    refine lx_ext rfl rfl rfl rfl ?_
    refine lx_allocr 8 hGF zv29 rfl rfl ?_
    intro b8
    refine lx_storea 8 hGF rfl rfl rfl Tryd.sizeOf29 (by rw [List.length_map]; exact Z0_len) (by rw [List.length_map]; exact Z0_len) (one_u8 _) rfl ?_
    refine lx_assign rfl rfl rfl ?_
    refine lx_nil ?_
    refine xs_plain (E := EE [12]) ?_
    refine lx_loada 7 rfl rfl Tryd.isAgg27 Tryd.sizeOf27 rfl rfl rfl ?_
    refine lx_move rfl rfl rfl ?_
    refine lx_move rfl rfl rfl ?_
    refine lx_min (z := (if (4611686018427387904 : Int) < n then (4611686018427387904 : Int) else n)) rfl rfl rfl rfl rfl ?_
    refine lx_callC rfl rfl ent14 (fun w' _ hG => hroot_n bm (if (4611686018427387904 : Int) < n then (4611686018427387904 : Int) else n) a _ cap (by split <;> omega) w' hG) rfl rfl ?_
    refine lx_move rfl rfl rfl ?_
    refine lx_ext rfl rfl rfl rfl ?_
    refine lx_ext rfl rfl rfl rfl ?_
    refine lx_allocr 10 hGF zv29 rfl rfl ?_
    intro b10
    refine lx_storea 10 hGF rfl rfl rfl Tryd.sizeOf29 (by rw [List.length_map]; exact Z0_len) (by rw [List.length_map]; exact Z0_len) (one_u8 _) rfl ?_
    refine lx_assign rfl rfl rfl ?_
    refine lx_nil ?_
    refine xs_drawn (E := EE [12]) mixed (by kernel_rfl) (by kernel_rfl) (by kernel_rfl) ?_
    refine lx_move rfl rfl rfl ?_
    refine lx_move rfl rfl rfl ?_
    refine lx_binB true rfl rfl (fun _ => rfl) (fun _ => bin_eql_i _ _ _) (by decide) rfl rfl ?_
    refine lx_move rfl rfl rfl ?_
    refine lx_loada 8 rfl rfl Tryd.isAgg29 Tryd.sizeOf29 (by rw [List.length_map]; exact Z0_len) rfl rfl ?_
    refine lx_loada 10 rfl rfl Tryd.isAgg29 Tryd.sizeOf29 (by rw [List.length_map]; exact Z0_len) rfl rfl ?_
    refine lx_binB true rfl rfl (fun w' => eqg29 _ _ _ _ _ w') (fun w' => eqv29 _ _ (Z0_len) (Z0_len) w') (decide_eq_true rfl) rfl rfl ?_
    refine lx_pick rfl rfl rfl rfl rfl ?_
    refine lx_move rfl rfl rfl ?_
    refine lx_move rfl rfl rfl ?_
    refine lx_callC rfl rfl ent15 (fun w' _ hG => hM.zero d w' hG) rfl rfl ?_
    refine lx_loada 7 rfl rfl Tryd.isAgg27 Tryd.sizeOf27 rfl rfl rfl ?_
    refine lx_move rfl rfl rfl ?_
    refine lx_max (z := (if d < 0 then 0 else d)) rfl rfl rfl rfl rfl ?_
    refine lx_callC rfl rfl ent16 (fun w' hw' hG => hzero_calls bm (if d < 0 then 0 else d) w' hG (hw'.own 17 _ _ _ rfl).1) rfl rfl ?_
    rw [zmax]
    refine lx_binB true rfl rfl (fun w' => eqg29 _ _ _ _ _ w') (fun w' => eqv29 _ _ (zr_len _) (zr_len _) w') (decide_eq_true rfl) rfl rfl ?_
    refine lx_pick rfl rfl rfl rfl rfl ?_
    refine lx_assign rfl rfl rfl ?_
    refine lx_nil ?_
    refine x_ret ?_
    repeat (first | refine kseq_ret ?_ | refine kblk_ret ?_)
    exact kret_tmp rfl rfl (fun w' hw' => ⟨rfl, hp_below hw'⟩)
  · skip
    refine lx_callC rfl rfl ent13 (fun w' hw' hG => hM.rootY n h63 l hl _ rfl (by omega) a cap hc hn w' hG (hr.grow (hp_below hw'))) rfl rfl ?_
    refine lx_move rfl rfl rfl ?_
    refine lx_ext rfl rfl rfl rfl ?_
    refine lx_ext rfl rfl rfl rfl ?_
    refine lx_allocr 8 hGF zv29 rfl rfl ?_
    intro b8
    refine lx_storea 8 hGF rfl rfl rfl Tryd.sizeOf29 (by rw [List.length_map]; exact tre_len hl _) (by rw [List.length_map]; exact Z0_len) (one_u8 _) rfl ?_
    refine lx_assign rfl rfl rfl ?_
    refine lx_nil ?_
    refine xs_plain (E := EE [12]) ?_
    refine lx_loada 7 rfl rfl Tryd.isAgg27 Tryd.sizeOf27 rfl rfl rfl ?_
    refine lx_move rfl rfl rfl ?_
    refine lx_move rfl rfl rfl ?_
    refine lx_min (z := (if (4611686018427387904 : Int) < n then (4611686018427387904 : Int) else n)) rfl rfl rfl rfl rfl ?_
    refine lx_callC rfl rfl ent14 (fun w' hw' hG => hroot_y bm (if (4611686018427387904 : Int) < n then (4611686018427387904 : Int) else n) l hl _ rfl (by omega) a cap hc (by split <;> omega) w' hG (hw'.own 17 _ _ _ rfl).1 (hr.grow (hp_below hw'))) rfl rfl ?_
    rw [dep_min]
    refine lx_move rfl rfl rfl ?_
    refine lx_ext rfl rfl rfl rfl ?_
    refine lx_ext rfl rfl rfl rfl ?_
    refine lx_allocr 10 hGF zv29 rfl rfl ?_
    intro b10
    refine lx_storea 10 hGF rfl rfl rfl Tryd.sizeOf29 (by rw [List.length_map]; exact tre_len hl _) (by rw [List.length_map]; exact Z0_len) (one_u8 _) rfl ?_
    refine lx_assign rfl rfl rfl ?_
    refine lx_nil ?_
    refine xs_drawn (E := EE [12]) mixed (by kernel_rfl) (by kernel_rfl) (by kernel_rfl) ?_
    refine lx_move rfl rfl rfl ?_
    refine lx_move rfl rfl rfl ?_
    refine lx_binB true rfl rfl (fun _ => rfl) (fun _ => bin_eql_i _ _ _) (by decide) rfl rfl ?_
    refine lx_move rfl rfl rfl ?_
    refine lx_loada 8 rfl rfl Tryd.isAgg29 Tryd.sizeOf29 (by rw [List.length_map]; exact tre_len hl _) rfl rfl ?_
    refine lx_loada 10 rfl rfl Tryd.isAgg29 Tryd.sizeOf29 (by rw [List.length_map]; exact tre_len hl _) rfl rfl ?_
    refine lx_binB true rfl rfl (fun w' => eqg29 _ _ _ _ _ w') (fun w' => eqv29 _ _ (tre_len hl _) (tre_len hl _) w') (decide_eq_true rfl) rfl rfl ?_
    refine lx_pick rfl rfl rfl rfl rfl ?_
    refine lx_move rfl rfl rfl ?_
    refine lx_move rfl rfl rfl ?_
    refine lx_callC rfl rfl ent15 (fun w' _ hG => hM.zero d w' hG) rfl rfl ?_
    refine lx_loada 7 rfl rfl Tryd.isAgg27 Tryd.sizeOf27 rfl rfl rfl ?_
    refine lx_move rfl rfl rfl ?_
    refine lx_max (z := (if d < 0 then 0 else d)) rfl rfl rfl rfl rfl ?_
    refine lx_callC rfl rfl ent16 (fun w' hw' hG => hzero_calls bm (if d < 0 then 0 else d) w' hG (hw'.own 17 _ _ _ rfl).1) rfl rfl ?_
    rw [zmax]
    refine lx_binB true rfl rfl (fun w' => eqg29 _ _ _ _ _ w') (fun w' => eqv29 _ _ (zr_len _) (zr_len _) w') (decide_eq_true rfl) rfl rfl ?_
    refine lx_pick rfl rfl rfl rfl rfl ?_
    refine lx_assign rfl rfl rfl ?_
    refine lx_nil ?_
    refine x_ret ?_
    repeat (first | refine kseq_ret ?_ | refine kblk_ret ?_)
    exact kret_tmp rfl rfl (fun w' hw' => ⟨rfl, hp_below hw'⟩)
theorem roots_law (hM : MerkleP) (a : Option Addr) (cap : Nat) (l : List Rt) (hl : AllR l) (hc : l.length ≤ cap) (n d : Int) (h63 : n < 9223372036854775808) (w : World) (hw : Gt w) (hr : RtsAt w a l) : Calls Tryd.prog 3 [.slice a l.length cap, I n, I d].toArray w (fun e w' => e = .returned (.bool true) ∧ Grow w w') := by
  by_cases hlt : l.length ≤ 60
  · exact roots_s hM a cap l hl hc n d h63 hlt w hw hr
  · exact roots_g hM a cap l n d hlt w hw
end Go.Proofs.YtfnnbaoilldpaaaDoor
