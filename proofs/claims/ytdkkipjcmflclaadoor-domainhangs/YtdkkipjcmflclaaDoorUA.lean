/-
  The program's depths; how many bits a number has.
-/
import Derived.Test.YtdkkipjcmflclaaDoorWB
import Derived.Test.YtdkkipjcmflclaaDoorX3
import Derived.Test.YtdkkipjcmflclaaDoorMU
namespace Go.Proofs.YtdkkipjcmflclaaDoor
open Go.RowKit
set_option maxRecDepth 100000
set_option maxHeartbeats 1000000
open Sh
theorem ent43 : Enters Tryd.prog 43 := fun _ _ => by kernel_rfl
theorem ent35 : Enters Tryd.prog 35 := fun _ _ => by kernel_rfl
theorem ent42 : Enters Tryd.prog 42 := fun _ _ => by kernel_rfl
theorem ent41 : Enters Tryd.prog 41 := fun _ _ => by kernel_rfl
theorem ent34 : Enters Tryd.prog 34 := fun _ _ => by kernel_rfl
theorem idx_len {P : Program} {G : Cls} {ro : Option Nat} {ops : Array Oper} {N : Nat} {ds : List Deferred} {fs : List Nat} {Z : Fr → Cls → Prop} {F : Fr} {C : Cls} {rest : List Oper} {d : Nat} {ty : TypeId} {pos : String} {af : Array Edge} {gd : Option (Nat × Bool)} {t : TypeId} {x ix : Operand} {s : ByteArray} {y : BitVec 64} (hb : y.toNat < 256) (hT : bitTab s = true) (hx : evF F x = some (.string s)) (hi : evF F ix = some (U8 (y.setWidth 8))) (hu : P.underlying t = some .string)
    (hw : wantF ops F ⟨some d, .index t x ix, ty, pos, af, gd⟩ = some true) (hd : Nat.blt d N = true) (h : ∀ q : BitVec 8, IsL y.toNat q.toNat → Lx P G ro ops N ds (EE fs) Z rest ((d, U8 q) :: F) C) : Lx P G ro ops N ds (EE fs) Z (⟨some d, .index t x ix, ty, pos, af, gd⟩ :: rest) F C := by
  obtain ⟨q, hq, hL⟩ := bitTab_at hT hb
  have e : (y.setWidth 8).toNat = y.toNat := by rw [BitVec.toNat_setWidth, Nat.mod_eq_of_lt hb]
  exact lx_idxs hx hi hu (by omega) (by rw [Int.toNat_natCast, e]; exact hq) hw hd (h q hL)
theorem len64_calls (x : BitVec 64) (w : World) (hw : Gt w) : Calls Tryd.prog 43 [U64 x].toArray w (fun e w' => e = .returned (I (ln x.toNat : Int)) ∧ Grow w w') := by
  have hS : ∀ k, IsL x.toNat k → IsL x.toNat (k + 0) := fun k hk => hk
  have hb : x.toNat < 4294967296 * 4294967296 := x.isLt
  have hGF : BOk Gt (pl w) := gt_low.plain hw
  refine calls_of_X (G := Gt) Tryd.func43 rfl rfl (Hp (pl w) []) (hp_refl (pl w) trivial rides_true) (good_hp hGF) ?_
  refine xs_plain (E := EE []) ?_
  refine lx_assign rfl rfl rfl ?_
  refine lx_nil ?_
  refine x_seq ?_
  refine xs_plain (E := EE []) ?_
  refine lx_move rfl rfl rfl ?_
  rcases Nat.lt_or_ge x.toNat 4294967296 with h | h
  · skip
    have hb := h
    refine lx_binB false rfl rfl (fun _ => rfl) (fun _ => bin_geq_u64 _ _ _) (by rw [decide_eq_false_iff_not, BitVec.le_def]; exact Nat.not_le.2 h) rfl rfl ?_
    refine lx_nil ?_
    refine x_false rfl ?_
    refine x_skip ?_
    refine x_seq ?_
    refine xs_plain (E := EE []) ?_
    refine lx_move rfl rfl rfl ?_
    rcases Nat.lt_or_ge x.toNat 65536 with h | h
    · skip
      have hb := h
      refine lx_binB false rfl rfl (fun _ => rfl) (fun _ => bin_geq_u64 _ _ _) (by rw [decide_eq_false_iff_not, BitVec.le_def]; exact Nat.not_le.2 h) rfl rfl ?_
      refine lx_nil ?_
      refine x_false rfl ?_
      refine x_skip ?_
      refine x_seq ?_
      refine xs_plain (E := EE []) ?_
      refine lx_move rfl rfl rfl ?_
      rcases Nat.lt_or_ge x.toNat 256 with h | h
      · skip
        have hb := h
        refine lx_binB false rfl rfl (fun _ => rfl) (fun _ => bin_geq_u64 _ _ _) (by rw [decide_eq_false_iff_not, BitVec.le_def]; exact Nat.not_le.2 h) rfl rfl ?_
        refine lx_nil ?_
        refine x_false rfl ?_
        refine x_skip ?_
        refine xs_plain (E := EE []) ?_
        refine lx_move rfl rfl rfl ?_
        refine lx_move rfl rfl rfl ?_
        refine lx_conv rfl rfl (fun _ => conv_u64_u8 Tryd.underlying25 Tryd.underlying5 _) rfl rfl ?_
        refine idx_len hb (by kernel_rfl) rfl rfl Tryd.underlying9 rfl rfl (fun q hL => ?_)
        refine lx_conv rfl rfl (fun _ => conv_u8_i Tryd.underlying5 Tryd.underlying3 _) rfl rfl ?_
        refine lx_bin (v := I (ln x.toNat : Int)) rfl rfl (fun _ => rfl) (fun _ => (bin_add_i _ _ _ (by have := q.isLt; unfold inI; omega)).trans (by rw [(hS _ hL).eq]; congr 2; omega)) rfl rfl ?_
        refine lx_assign rfl rfl rfl ?_
        refine lx_nil ?_
        refine x_ret ?_
        repeat (first | refine kseq_ret ?_ | refine kblk_ret ?_)
        exact kret_tmp rfl rfl (fun w' hw' => ⟨rfl, hp_below hw'⟩)
      · skip
        obtain ⟨y3, hy⟩ : ∃ y : BitVec 64, x >>> 8 = y := ⟨_, rfl⟩
        have hn : y3.toNat = x.toNat / 2 ^ 8 := by rw [← hy, BitVec.toNat_ushiftRight, Nat.shiftRight_eq_div_pow]
        have hS : ∀ k, IsL y3.toNat k → IsL x.toNat (k + 8) := fun k hk => by have := hS _ (IsL.shift 8 (hn ▸ hk) h); rw [Nat.add_assoc] at this; exact this
        have hb : y3.toNat < 256 := by rw [hn]; exact (Nat.div_lt_iff_lt_mul (by decide)).2 hb
        clear hn
        refine lx_binB true rfl rfl (fun _ => rfl) (fun _ => bin_geq_u64 _ _ _) (by rw [decide_eq_true_eq, BitVec.le_def]; exact h) rfl rfl ?_
        refine lx_nil ?_
        refine x_true rfl ?_
        refine xs_plain (E := EE []) ?_
        refine lx_move rfl rfl rfl ?_
        refine lx_bin (v := U64 y3) rfl rfl (fun _ => rfl) (fun _ => (bin_shr_u64 _ _ 8#64).trans (by rw [show (8#64).toNat = 8 from rfl, hy])) rfl rfl ?_
        refine lx_assign rfl rfl rfl ?_
        refine lx_nil ?_
        refine x_plain (E := EE []) ?_
        refine lx_move rfl rfl rfl ?_
        refine lx_bin (v := I 8) rfl rfl (fun _ => rfl) (fun _ => (bin_add_i _ _ _ (by unfold inI; decide)).trans (by rfl)) rfl rfl ?_
        refine lx_assign rfl rfl rfl ?_
        refine lx_nil ?_
        refine xs_plain (E := EE []) ?_
        refine lx_move rfl rfl rfl ?_
        refine lx_move rfl rfl rfl ?_
        refine lx_conv rfl rfl (fun _ => conv_u64_u8 Tryd.underlying25 Tryd.underlying5 _) rfl rfl ?_
        refine idx_len hb (by kernel_rfl) rfl rfl Tryd.underlying9 rfl rfl (fun q hL => ?_)
        refine lx_conv rfl rfl (fun _ => conv_u8_i Tryd.underlying5 Tryd.underlying3 _) rfl rfl ?_
        refine lx_bin (v := I (ln x.toNat : Int)) rfl rfl (fun _ => rfl) (fun _ => (bin_add_i _ _ _ (by have := q.isLt; unfold inI; omega)).trans (by rw [(hS _ hL).eq]; congr 2; omega)) rfl rfl ?_
        refine lx_assign rfl rfl rfl ?_
        refine lx_nil ?_
        refine x_ret ?_
        repeat (first | refine kseq_ret ?_ | refine kblk_ret ?_)
        exact kret_tmp rfl rfl (fun w' hw' => ⟨rfl, hp_below hw'⟩)
    · skip
      obtain ⟨y2, hy⟩ : ∃ y : BitVec 64, x >>> 16 = y := ⟨_, rfl⟩
      have hn : y2.toNat = x.toNat / 2 ^ 16 := by rw [← hy, BitVec.toNat_ushiftRight, Nat.shiftRight_eq_div_pow]
      have hS : ∀ k, IsL y2.toNat k → IsL x.toNat (k + 16) := fun k hk => by have := hS _ (IsL.shift 16 (hn ▸ hk) h); rw [Nat.add_assoc] at this; exact this
      have hb : y2.toNat < 65536 := by rw [hn]; exact (Nat.div_lt_iff_lt_mul (by decide)).2 hb
      clear hn
      refine lx_binB true rfl rfl (fun _ => rfl) (fun _ => bin_geq_u64 _ _ _) (by rw [decide_eq_true_eq, BitVec.le_def]; exact h) rfl rfl ?_
      refine lx_nil ?_
      refine x_true rfl ?_
      refine xs_plain (E := EE []) ?_
      refine lx_move rfl rfl rfl ?_
      refine lx_bin (v := U64 y2) rfl rfl (fun _ => rfl) (fun _ => (bin_shr_u64 _ _ 16#64).trans (by rw [show (16#64).toNat = 16 from rfl, hy])) rfl rfl ?_
      refine lx_assign rfl rfl rfl ?_
      refine lx_nil ?_
      refine x_plain (E := EE []) ?_
      refine lx_move rfl rfl rfl ?_
      refine lx_bin (v := I 16) rfl rfl (fun _ => rfl) (fun _ => (bin_add_i _ _ _ (by unfold inI; decide)).trans (by rfl)) rfl rfl ?_
      refine lx_assign rfl rfl rfl ?_
      refine lx_nil ?_
      refine x_seq ?_
      refine xs_plain (E := EE []) ?_
      refine lx_move rfl rfl rfl ?_
      rcases Nat.lt_or_ge y2.toNat 256 with h | h
      · skip
        have hb := h
        refine lx_binB false rfl rfl (fun _ => rfl) (fun _ => bin_geq_u64 _ _ _) (by rw [decide_eq_false_iff_not, BitVec.le_def]; exact Nat.not_le.2 h) rfl rfl ?_
        refine lx_nil ?_
        refine x_false rfl ?_
        refine x_skip ?_
        refine xs_plain (E := EE []) ?_
        refine lx_move rfl rfl rfl ?_
        refine lx_move rfl rfl rfl ?_
        refine lx_conv rfl rfl (fun _ => conv_u64_u8 Tryd.underlying25 Tryd.underlying5 _) rfl rfl ?_
        refine idx_len hb (by kernel_rfl) rfl rfl Tryd.underlying9 rfl rfl (fun q hL => ?_)
        refine lx_conv rfl rfl (fun _ => conv_u8_i Tryd.underlying5 Tryd.underlying3 _) rfl rfl ?_
        refine lx_bin (v := I (ln x.toNat : Int)) rfl rfl (fun _ => rfl) (fun _ => (bin_add_i _ _ _ (by have := q.isLt; unfold inI; omega)).trans (by rw [(hS _ hL).eq]; congr 2; omega)) rfl rfl ?_
        refine lx_assign rfl rfl rfl ?_
        refine lx_nil ?_
        refine x_ret ?_
        repeat (first | refine kseq_ret ?_ | refine kblk_ret ?_)
        exact kret_tmp rfl rfl (fun w' hw' => ⟨rfl, hp_below hw'⟩)
      · skip
        obtain ⟨y3, hy⟩ : ∃ y : BitVec 64, y2 >>> 8 = y := ⟨_, rfl⟩
        have hn : y3.toNat = y2.toNat / 2 ^ 8 := by rw [← hy, BitVec.toNat_ushiftRight, Nat.shiftRight_eq_div_pow]
        have hS : ∀ k, IsL y3.toNat k → IsL x.toNat (k + 24) := fun k hk => by have := hS _ (IsL.shift 8 (hn ▸ hk) h); rw [Nat.add_assoc] at this; exact this
        have hb : y3.toNat < 256 := by rw [hn]; exact (Nat.div_lt_iff_lt_mul (by decide)).2 hb
        clear hn
        refine lx_binB true rfl rfl (fun _ => rfl) (fun _ => bin_geq_u64 _ _ _) (by rw [decide_eq_true_eq, BitVec.le_def]; exact h) rfl rfl ?_
        refine lx_nil ?_
        refine x_true rfl ?_
        refine xs_plain (E := EE []) ?_
        refine lx_move rfl rfl rfl ?_
        refine lx_bin (v := U64 y3) rfl rfl (fun _ => rfl) (fun _ => (bin_shr_u64 _ _ 8#64).trans (by rw [show (8#64).toNat = 8 from rfl, hy])) rfl rfl ?_
        refine lx_assign rfl rfl rfl ?_
        refine lx_nil ?_
        refine x_plain (E := EE []) ?_
        refine lx_move rfl rfl rfl ?_
        refine lx_bin (v := I 24) rfl rfl (fun _ => rfl) (fun _ => (bin_add_i _ _ _ (by unfold inI; decide)).trans (by rfl)) rfl rfl ?_
        refine lx_assign rfl rfl rfl ?_
        refine lx_nil ?_
        refine xs_plain (E := EE []) ?_
        refine lx_move rfl rfl rfl ?_
        refine lx_move rfl rfl rfl ?_
        refine lx_conv rfl rfl (fun _ => conv_u64_u8 Tryd.underlying25 Tryd.underlying5 _) rfl rfl ?_
        refine idx_len hb (by kernel_rfl) rfl rfl Tryd.underlying9 rfl rfl (fun q hL => ?_)
        refine lx_conv rfl rfl (fun _ => conv_u8_i Tryd.underlying5 Tryd.underlying3 _) rfl rfl ?_
        refine lx_bin (v := I (ln x.toNat : Int)) rfl rfl (fun _ => rfl) (fun _ => (bin_add_i _ _ _ (by have := q.isLt; unfold inI; omega)).trans (by rw [(hS _ hL).eq]; congr 2; omega)) rfl rfl ?_
        refine lx_assign rfl rfl rfl ?_
        refine lx_nil ?_
        refine x_ret ?_
        repeat (first | refine kseq_ret ?_ | refine kblk_ret ?_)
        exact kret_tmp rfl rfl (fun w' hw' => ⟨rfl, hp_below hw'⟩)
  · skip
    obtain ⟨y1, hy⟩ : ∃ y : BitVec 64, x >>> 32 = y := ⟨_, rfl⟩
    have hn : y1.toNat = x.toNat / 2 ^ 32 := by rw [← hy, BitVec.toNat_ushiftRight, Nat.shiftRight_eq_div_pow]
    have hS : ∀ k, IsL y1.toNat k → IsL x.toNat (k + 32) := fun k hk => by have := hS _ (IsL.shift 32 (hn ▸ hk) h); rw [Nat.add_assoc] at this; exact this
    have hb : y1.toNat < 4294967296 := by rw [hn]; exact (Nat.div_lt_iff_lt_mul (by decide)).2 hb
    clear hn
    refine lx_binB true rfl rfl (fun _ => rfl) (fun _ => bin_geq_u64 _ _ _) (by rw [decide_eq_true_eq, BitVec.le_def]; exact h) rfl rfl ?_
    refine lx_nil ?_
    refine x_true rfl ?_
    refine xs_plain (E := EE []) ?_
    refine lx_move rfl rfl rfl ?_
    refine lx_bin (v := U64 y1) rfl rfl (fun _ => rfl) (fun _ => (bin_shr_u64 _ _ 32#64).trans (by rw [show (32#64).toNat = 32 from rfl, hy])) rfl rfl ?_
    refine lx_assign rfl rfl rfl ?_
    refine lx_nil ?_
    refine x_plain (E := EE []) ?_
    refine lx_assign rfl rfl rfl ?_
    refine lx_nil ?_
    refine x_seq ?_
    refine xs_plain (E := EE []) ?_
    refine lx_move rfl rfl rfl ?_
    rcases Nat.lt_or_ge y1.toNat 65536 with h | h
    · skip
      have hb := h
      refine lx_binB false rfl rfl (fun _ => rfl) (fun _ => bin_geq_u64 _ _ _) (by rw [decide_eq_false_iff_not, BitVec.le_def]; exact Nat.not_le.2 h) rfl rfl ?_
      refine lx_nil ?_
      refine x_false rfl ?_
      refine x_skip ?_
      refine x_seq ?_
      refine xs_plain (E := EE []) ?_
      refine lx_move rfl rfl rfl ?_
      rcases Nat.lt_or_ge y1.toNat 256 with h | h
      · skip
        have hb := h
        refine lx_binB false rfl rfl (fun _ => rfl) (fun _ => bin_geq_u64 _ _ _) (by rw [decide_eq_false_iff_not, BitVec.le_def]; exact Nat.not_le.2 h) rfl rfl ?_
        refine lx_nil ?_
        refine x_false rfl ?_
        refine x_skip ?_
        refine xs_plain (E := EE []) ?_
        refine lx_move rfl rfl rfl ?_
        refine lx_move rfl rfl rfl ?_
        refine lx_conv rfl rfl (fun _ => conv_u64_u8 Tryd.underlying25 Tryd.underlying5 _) rfl rfl ?_
        refine idx_len hb (by kernel_rfl) rfl rfl Tryd.underlying9 rfl rfl (fun q hL => ?_)
        refine lx_conv rfl rfl (fun _ => conv_u8_i Tryd.underlying5 Tryd.underlying3 _) rfl rfl ?_
        refine lx_bin (v := I (ln x.toNat : Int)) rfl rfl (fun _ => rfl) (fun _ => (bin_add_i _ _ _ (by have := q.isLt; unfold inI; omega)).trans (by rw [(hS _ hL).eq]; congr 2; omega)) rfl rfl ?_
        refine lx_assign rfl rfl rfl ?_
        refine lx_nil ?_
        refine x_ret ?_
        repeat (first | refine kseq_ret ?_ | refine kblk_ret ?_)
        exact kret_tmp rfl rfl (fun w' hw' => ⟨rfl, hp_below hw'⟩)
      · skip
        obtain ⟨y3, hy⟩ : ∃ y : BitVec 64, y1 >>> 8 = y := ⟨_, rfl⟩
        have hn : y3.toNat = y1.toNat / 2 ^ 8 := by rw [← hy, BitVec.toNat_ushiftRight, Nat.shiftRight_eq_div_pow]
        have hS : ∀ k, IsL y3.toNat k → IsL x.toNat (k + 40) := fun k hk => by have := hS _ (IsL.shift 8 (hn ▸ hk) h); rw [Nat.add_assoc] at this; exact this
        have hb : y3.toNat < 256 := by rw [hn]; exact (Nat.div_lt_iff_lt_mul (by decide)).2 hb
        clear hn
        refine lx_binB true rfl rfl (fun _ => rfl) (fun _ => bin_geq_u64 _ _ _) (by rw [decide_eq_true_eq, BitVec.le_def]; exact h) rfl rfl ?_
        refine lx_nil ?_
        refine x_true rfl ?_
        refine xs_plain (E := EE []) ?_
        refine lx_move rfl rfl rfl ?_
        refine lx_bin (v := U64 y3) rfl rfl (fun _ => rfl) (fun _ => (bin_shr_u64 _ _ 8#64).trans (by rw [show (8#64).toNat = 8 from rfl, hy])) rfl rfl ?_
        refine lx_assign rfl rfl rfl ?_
        refine lx_nil ?_
        refine x_plain (E := EE []) ?_
        refine lx_move rfl rfl rfl ?_
        refine lx_bin (v := I 40) rfl rfl (fun _ => rfl) (fun _ => (bin_add_i _ _ _ (by unfold inI; decide)).trans (by rfl)) rfl rfl ?_
        refine lx_assign rfl rfl rfl ?_
        refine lx_nil ?_
        refine xs_plain (E := EE []) ?_
        refine lx_move rfl rfl rfl ?_
        refine lx_move rfl rfl rfl ?_
        refine lx_conv rfl rfl (fun _ => conv_u64_u8 Tryd.underlying25 Tryd.underlying5 _) rfl rfl ?_
        refine idx_len hb (by kernel_rfl) rfl rfl Tryd.underlying9 rfl rfl (fun q hL => ?_)
        refine lx_conv rfl rfl (fun _ => conv_u8_i Tryd.underlying5 Tryd.underlying3 _) rfl rfl ?_
        refine lx_bin (v := I (ln x.toNat : Int)) rfl rfl (fun _ => rfl) (fun _ => (bin_add_i _ _ _ (by have := q.isLt; unfold inI; omega)).trans (by rw [(hS _ hL).eq]; congr 2; omega)) rfl rfl ?_
        refine lx_assign rfl rfl rfl ?_
        refine lx_nil ?_
        refine x_ret ?_
        repeat (first | refine kseq_ret ?_ | refine kblk_ret ?_)
        exact kret_tmp rfl rfl (fun w' hw' => ⟨rfl, hp_below hw'⟩)
    · skip
      obtain ⟨y2, hy⟩ : ∃ y : BitVec 64, y1 >>> 16 = y := ⟨_, rfl⟩
      have hn : y2.toNat = y1.toNat / 2 ^ 16 := by rw [← hy, BitVec.toNat_ushiftRight, Nat.shiftRight_eq_div_pow]
      have hS : ∀ k, IsL y2.toNat k → IsL x.toNat (k + 48) := fun k hk => by have := hS _ (IsL.shift 16 (hn ▸ hk) h); rw [Nat.add_assoc] at this; exact this
      have hb : y2.toNat < 65536 := by rw [hn]; exact (Nat.div_lt_iff_lt_mul (by decide)).2 hb
      clear hn
      refine lx_binB true rfl rfl (fun _ => rfl) (fun _ => bin_geq_u64 _ _ _) (by rw [decide_eq_true_eq, BitVec.le_def]; exact h) rfl rfl ?_
      refine lx_nil ?_
      refine x_true rfl ?_
      refine xs_plain (E := EE []) ?_
      refine lx_move rfl rfl rfl ?_
      refine lx_bin (v := U64 y2) rfl rfl (fun _ => rfl) (fun _ => (bin_shr_u64 _ _ 16#64).trans (by rw [show (16#64).toNat = 16 from rfl, hy])) rfl rfl ?_
      refine lx_assign rfl rfl rfl ?_
      refine lx_nil ?_
      refine x_plain (E := EE []) ?_
      refine lx_move rfl rfl rfl ?_
      refine lx_bin (v := I 48) rfl rfl (fun _ => rfl) (fun _ => (bin_add_i _ _ _ (by unfold inI; decide)).trans (by rfl)) rfl rfl ?_
      refine lx_assign rfl rfl rfl ?_
      refine lx_nil ?_
      refine x_seq ?_
      refine xs_plain (E := EE []) ?_
      refine lx_move rfl rfl rfl ?_
      rcases Nat.lt_or_ge y2.toNat 256 with h | h
      · skip
        have hb := h
        refine lx_binB false rfl rfl (fun _ => rfl) (fun _ => bin_geq_u64 _ _ _) (by rw [decide_eq_false_iff_not, BitVec.le_def]; exact Nat.not_le.2 h) rfl rfl ?_
        refine lx_nil ?_
        refine x_false rfl ?_
        refine x_skip ?_
        refine xs_plain (E := EE []) ?_
        refine lx_move rfl rfl rfl ?_
        refine lx_move rfl rfl rfl ?_
        refine lx_conv rfl rfl (fun _ => conv_u64_u8 Tryd.underlying25 Tryd.underlying5 _) rfl rfl ?_
        refine idx_len hb (by kernel_rfl) rfl rfl Tryd.underlying9 rfl rfl (fun q hL => ?_)
        refine lx_conv rfl rfl (fun _ => conv_u8_i Tryd.underlying5 Tryd.underlying3 _) rfl rfl ?_
        refine lx_bin (v := I (ln x.toNat : Int)) rfl rfl (fun _ => rfl) (fun _ => (bin_add_i _ _ _ (by have := q.isLt; unfold inI; omega)).trans (by rw [(hS _ hL).eq]; congr 2; omega)) rfl rfl ?_
        refine lx_assign rfl rfl rfl ?_
        refine lx_nil ?_
        refine x_ret ?_
        repeat (first | refine kseq_ret ?_ | refine kblk_ret ?_)
        exact kret_tmp rfl rfl (fun w' hw' => ⟨rfl, hp_below hw'⟩)
      · skip
        obtain ⟨y3, hy⟩ : ∃ y : BitVec 64, y2 >>> 8 = y := ⟨_, rfl⟩
        have hn : y3.toNat = y2.toNat / 2 ^ 8 := by rw [← hy, BitVec.toNat_ushiftRight, Nat.shiftRight_eq_div_pow]
        have hS : ∀ k, IsL y3.toNat k → IsL x.toNat (k + 56) := fun k hk => by have := hS _ (IsL.shift 8 (hn ▸ hk) h); rw [Nat.add_assoc] at this; exact this
        have hb : y3.toNat < 256 := by rw [hn]; exact (Nat.div_lt_iff_lt_mul (by decide)).2 hb
        clear hn
        refine lx_binB true rfl rfl (fun _ => rfl) (fun _ => bin_geq_u64 _ _ _) (by rw [decide_eq_true_eq, BitVec.le_def]; exact h) rfl rfl ?_
        refine lx_nil ?_
        refine x_true rfl ?_
        refine xs_plain (E := EE []) ?_
        refine lx_move rfl rfl rfl ?_
        refine lx_bin (v := U64 y3) rfl rfl (fun _ => rfl) (fun _ => (bin_shr_u64 _ _ 8#64).trans (by rw [show (8#64).toNat = 8 from rfl, hy])) rfl rfl ?_
        refine lx_assign rfl rfl rfl ?_
        refine lx_nil ?_
        refine x_plain (E := EE []) ?_
        refine lx_move rfl rfl rfl ?_
        refine lx_bin (v := I 56) rfl rfl (fun _ => rfl) (fun _ => (bin_add_i _ _ _ (by unfold inI; decide)).trans (by rfl)) rfl rfl ?_
        refine lx_assign rfl rfl rfl ?_
        refine lx_nil ?_
        refine xs_plain (E := EE []) ?_
        refine lx_move rfl rfl rfl ?_
        refine lx_move rfl rfl rfl ?_
        refine lx_conv rfl rfl (fun _ => conv_u64_u8 Tryd.underlying25 Tryd.underlying5 _) rfl rfl ?_
        refine idx_len hb (by kernel_rfl) rfl rfl Tryd.underlying9 rfl rfl (fun q hL => ?_)
        refine lx_conv rfl rfl (fun _ => conv_u8_i Tryd.underlying5 Tryd.underlying3 _) rfl rfl ?_
        refine lx_bin (v := I (ln x.toNat : Int)) rfl rfl (fun _ => rfl) (fun _ => (bin_add_i _ _ _ (by have := q.isLt; unfold inI; omega)).trans (by rw [(hS _ hL).eq]; congr 2; omega)) rfl rfl ?_
        refine lx_assign rfl rfl rfl ?_
        refine lx_nil ?_
        refine x_ret ?_
        repeat (first | refine kseq_ret ?_ | refine kblk_ret ?_)
        exact kret_tmp rfl rfl (fun w' hw' => ⟨rfl, hp_below hw'⟩)
theorem ln_is (n : Nat) : IsL n (ln n) := by
  unfold ln
  by_cases h0 : n = 0
  · rw [if_pos h0]; exact ⟨by omega, fun e he => by omega⟩
  · rw [if_neg h0]
    exact ⟨(Nat.log2_lt h0).1 (Nat.lt_succ_self _), fun e he => (Nat.le_log2 h0).1 (by omega)⟩
theorem dep_ln (n : Nat) : dep n = min (ln (n - 1)) 62 := by
  have h := ln_is (n - 1)
  refine (dep_of (by omega) ?_ (fun e he => by have := h.2 e (by omega); have := Nat.two_pow_pos e; omega)).symm
  rcases Nat.le_total (ln (n - 1)) 62 with h6 | h6
  · rw [Nat.min_eq_left h6]; exact .inr (by have := h.1; omega)
  · rw [Nat.min_eq_right h6]; exact .inl rfl
theorem depfor_calls (n : Int) (hn : n < 9223372036854775808) (w : World) (hw : Gt w) : Calls Tryd.prog 35 [I n].toArray w (fun e w' => e = .returned (I (dep n.toNat : Nat)) ∧ Grow w w') := by
  have hGF : BOk Gt (pl w) := gt_low.plain hw
  refine calls_of_X (G := Gt) Tryd.func35 rfl rfl (Hp (pl w) []) (hp_refl (pl w) trivial rides_true) (good_hp hGF) ?_
  refine xs_plain (E := EE []) ?_
  refine lx_assign rfl rfl rfl ?_
  refine lx_nil ?_
  refine xs_plain (E := EE []) ?_
  refine lx_move rfl rfl rfl ?_
  refine lx_max (z := (if n < 1 then (1 : Int) else n)) rfl rfl rfl rfl rfl ?_
  refine lx_bin (v := I (((n.toNat - 1 : Nat) : Int))) rfl rfl (fun _ => rfl) (fun _ => (bin_sub_i _ _ _ (by unfold inI; split <;> omega)).trans (by congr 2; split <;> omega)) rfl rfl ?_
  refine lx_conv rfl rfl (fun _ => conv_i_u64 Tryd.underlying3 Tryd.underlying25 _) rfl rfl ?_
  refine lx_callC rfl rfl ent43 (fun w' _ hG => len64_calls _ w' hG) rfl rfl ?_
  rw [BitVec.toNat_ofInt, show ((((n.toNat - 1 : Nat) : Int) % ((2 ^ 64 : Nat) : Int)).toNat) = n.toNat - 1 from by omega]
  refine lx_min (z := (dep n.toNat : Int)) rfl rfl (by rw [dep_ln]; split <;> omega) rfl rfl ?_
  refine lx_assign rfl rfl rfl ?_
  refine lx_nil ?_
  refine x_ret ?_
  repeat (first | refine kseq_ret ?_ | refine kblk_ret ?_)
  exact kret_tmp rfl rfl (fun w' hw' => ⟨rfl, hp_below hw'⟩)
end Go.Proofs.YtdkkipjcmflclaaDoor
