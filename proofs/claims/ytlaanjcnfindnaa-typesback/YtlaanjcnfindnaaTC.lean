/-
  The program's reader.
-/
import Derived.Test.YtlaanjcnfindnaaTB
namespace Go.Proofs.Ytlaanjcnfindnaa
open Go.RowKit
set_option maxRecDepth 100000
set_option maxHeartbeats 1000000

theorem ent89 : Enters Try.prog 89 := fun _ _ => by kernel_rfl
theorem ent90 : Enters Try.prog 90 := fun _ _ => by kernel_rfl
theorem ent75 : Enters Try.prog 75 := fun _ _ => by kernel_rfl
theorem ent80 : Enters Try.prog 80 := fun _ _ => by kernel_rfl
theorem ent86 : Enters Try.prog 86 := fun _ _ => by kernel_rfl
theorem ent63 : Enters Try.prog 63 := fun _ _ => by kernel_rfl
theorem ent62 : Enters Try.prog 62 := fun _ _ => by kernel_rfl
/-- A reader at block b: what is left, the error; its bytes lie in S. -/
def RdAt (t : TypeId) (S : Nat → Prop) (w : World) (b : Nat) (bs : List (BitVec 8)) (e : Int) : Prop :=
  ∃ a c, OwnB w b [.slice a bs.length c, I e] t ∧ bs.length ≤ c ∧ BytesAt w a bs ∧ ∀ ad, a = some ad → S ad.block ∧ ad.block ≠ b
theorem RdAt.mm {t : TypeId} {S M : Nat → Prop} {w w' : World} {b : Nat} {bs : List (BitVec 8)} {e : Int} (h : RdAt t S w b bs e) (hm : MM M w w') (hb : ¬ M b) (hS : ∀ k, S k → k < w.heap.size → ¬ M k) : RdAt t S w' b bs e := by
  obtain ⟨a, c, ho, hc, hy, hs⟩ := h
  refine ⟨a, c, hm.own ho hb, hc, fun j v hv => ?_, hs⟩
  obtain ⟨ad, e', hcl⟩ := hy j v hv
  refine ⟨ad, e', ?_⟩
  have hl := block_lt_of_cell hcl
  have e2 : (ad.add j).block = ad.block := block_add ad j
  rw [World.cell?_of_block (w := w) (hm.keep _ hl (by rw [e2] at hl ⊢; exact hS _ (hs ad e').1 hl))]
  exact hcl
theorem RdAt.grow {t : TypeId} {S : Nat → Prop} {w w' : World} {b : Nat} {bs : List (BitVec 8)} {e : Int} (h : RdAt t S w b bs e) (hg : Grow w w') : RdAt t S w' b bs e := h.mm (M := fun _ => False) (grow_mm hg) id (fun _ _ _ h => h)
theorem RdAt.sub {t : TypeId} {S S' : Nat → Prop} {w : World} {b : Nat} {bs : List (BitVec 8)} {e : Int} (h : RdAt t S w b bs e) (hS : ∀ k, S k → S' k) : RdAt t S' w b bs e := by
  obtain ⟨a, c, ho, hc, hy, hs⟩ := h
  exact ⟨a, c, ho, hc, hy, fun ad e => ⟨hS _ (hs ad e).1, (hs ad e).2⟩⟩
theorem RdAt.lt {t : TypeId} {S : Nat → Prop} {w : World} {b : Nat} {bs : List (BitVec 8)} {e : Int} (h : RdAt t S w b bs e) : b < w.heap.size := by
  obtain ⟨a, c, ho, _⟩ := h
  exact ho.lt
def cutA (a : Option Addr) (c m : Nat) : Option Addr := if c = m then a else a.map (·.add (m * 1))
theorem cutA_blk {a : Option Addr} {c m : Nat} {ad : Addr} (h : cutA a c m = some ad) : ∃ ad0, a = some ad0 ∧ ad0.block = ad.block := by
  unfold cutA at h
  split at h
  · exact ⟨ad, h, rfl⟩
  · cases a with
    | none => cases h
    | some x => cases h; exact ⟨x, rfl, (block_add x _).symm⟩
theorem cutA_by {w : World} {a : Option Addr} {bs : List (BitVec 8)} (h : BytesAt w a bs) {c : Nat} (hc : bs.length ≤ c) (m : Nat) : BytesAt w (cutA a c m) (bs.drop m) := by
  have := h.cut m bs.length hc
  rwa [List.take_of_length_le (by rw [List.length_drop]; omega)] at this
theorem cut0 (a : Option Addr) (m : Nat) : (if m = 0 then a else a.map (·.add (0 * 1))) = a := by
  cases a with
  | none => simp
  | some ad => simp [Addr.add]
/-- What is got by so many bytes; what is left. -/
def got (bs : List (BitVec 8)) (e : Int) (m : Nat) : List (BitVec 8) := if e = 0 ∧ m ≤ bs.length then bs.take m else []
def lft (bs : List (BitVec 8)) (e : Int) (m : Nat) : List (BitVec 8) := if e = 0 ∧ m ≤ bs.length then bs.drop m else bs
def err (bs : List (BitVec 8)) (e : Int) (m : Nat) : Int := if e = 0 ∧ bs.length < m then 170 else e
theorem rd_e {bs : List (BitVec 8)} {e : Int} (m : Nat) (h : e ≠ 0) : got bs e m = [] ∧ lft bs e m = bs ∧ err bs e m = e := by simp [got, lft, err, h]
theorem rd_l {bs : List (BitVec 8)} {m : Nat} (h : bs.length < m) : got bs 0 m = [] ∧ lft bs 0 m = bs ∧ err bs 0 m = 170 := by
  have : ¬ m ≤ bs.length := by omega
  simp [got, lft, err, h, this]
theorem rd_k {bs : List (BitVec 8)} {m : Nat} (h : m ≤ bs.length) : got bs 0 m = bs.take m ∧ lft bs 0 m = bs.drop m ∧ err bs 0 m = 0 := by
  have : ¬ bs.length < m := by omega
  simp [got, lft, err, h, this]
theorem mod_mm {b : Nat} {w w' : World} (h : MM (fun k => k = b) w w') : Mod b w w' := ⟨h.os, h.tape, h.output, h.size, fun k hk hn => h.keep k hk hn⟩
theorem rd_pass {t : TypeId} {S : Nat → Prop} {w w' : World} {b : Nat} {a : Option Addr} {c : Nat} {bs : List (BitVec 8)} {m : Nat} {e : Int} (hc : bs.length ≤ c) (hm : m ≤ bs.length) (hy : BytesAt w a bs) (hs : ∀ ad, a = some ad → S ad.block ∧ ad.block ≠ b) (hM : MM (fun k => k = b) w w') (ho : OwnB w' b [.slice (cutA a c m) (bs.length - m) (c - m), I e] t) : RdAt t S w' b (bs.drop m) e :=
  ⟨cutA a c m, c - m, by rw [List.length_drop]; exact ho, by rw [List.length_drop]; omega, cutA_by (hM.bytes hy fun ad e h => (hs ad e).2 h) hc m, fun ad e => by
    obtain ⟨x, hx, hb⟩ := cutA_blk e
    rw [← hb]
    exact hs x hx⟩
theorem cut_e (b : Nat) (a : Option Addr) (c n : Nat) (e : Int) (m : Nat) (w : World) (hw : Gt w) (hbl : 0 ≤ b) (ho : OwnB w b [.slice a n c, I e] 135) (he : e ≠ 0) : Calls Try.prog 89 [.pointer (some ⟨b, 0, none⟩), I (m : Int)].toArray w (fun r w' => r = .returned (.tuple #[.slice none 0 0, .bool false]) ∧ MM (fun k => k = b) w w' ∧ OwnB w' b [.slice a n c, I e] 135) := by
  have hGF : BOk Gt (plM w (fun k => k = b)) := ok_plM gt_low hw (fun m e => e ▸ hbl)
  refine calls_of_X (G := Gt) Try.func89 rfl rfl (Hp (plM w (fun k => k = b)) [(0, b, [.slice a n c, I e], 135)]) (hp_one' ho rfl) (good_hp hGF) ?_
  refine xs_plain (E := EE []) ?_
  refine lx_assign rfl rfl rfl ?_
  refine lx_assign rfl rfl rfl ?_
  refine lx_nil ?_
  refine x_seq ?_
  refine x_block ?_
  refine xs_plain (E := EE []) ?_
  refine lx_move rfl rfl rfl ?_
  refine lx_nilc rfl rfl rfl ?_
  refine lx_fak 1 rfl Try.underlying135 rfl Try.sizeOf51 (by decide) rfl rfl rfl ?_
  refine lx_loadl 0 rfl rfl rfl Try.isAgg51 rfl rfl ?_
  refine lx_binB true rfl rfl (fun _ => rfl) (fun _ => bin_neq_i _ _ _) (by simpa using he) rfl rfl ?_
  refine lx_assign rfl rfl rfl ?_
  refine lx_nil ?_
  refine x_true rfl ?_
  refine xs_plain (E := EE []) ?_
  refine lx_assign rfl rfl rfl ?_
  refine lx_assign rfl rfl rfl ?_
  refine lx_nil ?_
  refine x_ret ?_
  repeat (first | refine kseq_ret ?_ | refine kblk_ret ?_)
  exact kret_tt rfl rfl rfl (fun w' hw' => ⟨rfl, hq_mm hw', (hw'.own 0 _ _ _ rfl).1⟩)
theorem cut_l (b : Nat) (a : Option Addr) (c n m : Nat) (w : World) (hw : Gt w) (hbl : 0 ≤ b) (ho : OwnB w b [.slice a n c, I 0] 135) (hm : n < m) : Calls Try.prog 89 [.pointer (some ⟨b, 0, none⟩), I (m : Int)].toArray w (fun r w' => r = .returned (.tuple #[.slice none 0 0, .bool false]) ∧ MM (fun k => k = b) w w' ∧ OwnB w' b [.slice a n c, I 170] 135) := by
  have hGF : BOk Gt (plM w (fun k => k = b)) := ok_plM gt_low hw (fun m e => e ▸ hbl)
  refine calls_of_X (G := Gt) Try.func89 rfl rfl (Hp (plM w (fun k => k = b)) [(0, b, [.slice a n c, I 0], 135)]) (hp_one' ho rfl) (good_hp hGF) ?_
  refine xs_plain (E := EE []) ?_
  refine lx_assign rfl rfl rfl ?_
  refine lx_assign rfl rfl rfl ?_
  refine lx_nil ?_
  refine x_seq ?_
  refine x_block ?_
  refine xs_plain (E := EE []) ?_
  refine lx_move rfl rfl rfl ?_
  refine lx_nilc rfl rfl rfl ?_
  refine lx_fak 1 rfl Try.underlying135 rfl Try.sizeOf51 (by decide) rfl rfl rfl ?_
  refine lx_loadl 0 rfl rfl rfl Try.isAgg51 rfl rfl ?_
  refine lx_binB false rfl rfl (fun _ => rfl) (fun _ => bin_neq_i _ _ _) (by simp) rfl rfl ?_
  refine lx_assign rfl rfl rfl ?_
  refine lx_nil ?_
  refine x_false rfl ?_
  refine xs_plain (E := EE []) ?_
  refine lx_move rfl rfl rfl ?_
  refine lx_move rfl rfl rfl ?_
  refine lx_nilc rfl rfl rfl ?_
  refine lx_fak 0 rfl Try.underlying135 rfl Try.sizeOf46 (by decide) rfl rfl rfl ?_
  refine lx_loadl 0 rfl rfl rfl Try.isAgg46 rfl rfl ?_
  refine lx_len rfl (fun _ => len_slice Try.underlying46 _ _ _ _) rfl rfl ?_
  refine lx_binB true rfl rfl (fun _ => rfl) (fun _ => bin_gtr_i _ _ _) (by simp; omega) rfl rfl ?_
  refine lx_assign rfl rfl rfl ?_
  refine lx_nil ?_
  refine x_true rfl ?_
  refine xs_plain (E := EE []) ?_
  refine lx_move rfl rfl rfl ?_
  refine lx_nilc rfl rfl rfl ?_
  refine lx_fak 1 rfl Try.underlying135 rfl Try.sizeOf51 (by decide) rfl rfl rfl ?_
  refine lx_store 0 hGF rfl rfl rfl Try.sizeOf51 rfl (by simp [*]) rfl ?_
  refine lx_nil ?_
  refine xs_plain (E := EE []) ?_
  refine lx_assign rfl rfl rfl ?_
  refine lx_assign rfl rfl rfl ?_
  refine lx_nil ?_
  refine x_ret ?_
  repeat (first | refine kseq_ret ?_ | refine kblk_ret ?_)
  exact kret_tt rfl rfl rfl (fun w' hw' => ⟨rfl, hq_mm hw', (hw'.own 0 _ _ _ rfl).1⟩)
theorem cut_k (b : Nat) (a : Option Addr) (c n m : Nat) (w : World) (hw : Gt w) (hbl : 0 ≤ b) (ho : OwnB w b [.slice a n c, I 0] 135) (hm : m ≤ n) (hc : n ≤ c) : Calls Try.prog 89 [.pointer (some ⟨b, 0, none⟩), I (m : Int)].toArray w (fun r w' => r = .returned (.tuple #[.slice a m m, .bool true]) ∧ MM (fun k => k = b) w w' ∧ OwnB w' b [.slice a n c, I 0] 135) := by
  have hGF : BOk Gt (plM w (fun k => k = b)) := ok_plM gt_low hw (fun m e => e ▸ hbl)
  refine calls_of_X (G := Gt) Try.func89 rfl rfl (Hp (plM w (fun k => k = b)) [(0, b, [.slice a n c, I 0], 135)]) (hp_one' ho rfl) (good_hp hGF) ?_
  refine xs_plain (E := EE []) ?_
  refine lx_assign rfl rfl rfl ?_
  refine lx_assign rfl rfl rfl ?_
  refine lx_nil ?_
  refine x_seq ?_
  refine x_block ?_
  refine xs_plain (E := EE []) ?_
  refine lx_move rfl rfl rfl ?_
  refine lx_nilc rfl rfl rfl ?_
  refine lx_fak 1 rfl Try.underlying135 rfl Try.sizeOf51 (by decide) rfl rfl rfl ?_
  refine lx_loadl 0 rfl rfl rfl Try.isAgg51 rfl rfl ?_
  refine lx_binB false rfl rfl (fun _ => rfl) (fun _ => bin_neq_i _ _ _) (by simp) rfl rfl ?_
  refine lx_assign rfl rfl rfl ?_
  refine lx_nil ?_
  refine x_false rfl ?_
  refine xs_plain (E := EE []) ?_
  refine lx_move rfl rfl rfl ?_
  refine lx_move rfl rfl rfl ?_
  refine lx_nilc rfl rfl rfl ?_
  refine lx_fak 0 rfl Try.underlying135 rfl Try.sizeOf46 (by decide) rfl rfl rfl ?_
  refine lx_loadl 0 rfl rfl rfl Try.isAgg46 rfl rfl ?_
  refine lx_len rfl (fun _ => len_slice Try.underlying46 _ _ _ _) rfl rfl ?_
  refine lx_binB false rfl rfl (fun _ => rfl) (fun _ => bin_gtr_i _ _ _) (by simp; omega) rfl rfl ?_
  refine lx_assign rfl rfl rfl ?_
  refine lx_nil ?_
  refine x_false rfl ?_
  refine x_skip ?_
  refine xs_plain (E := EE []) ?_
  refine lx_move rfl rfl rfl ?_
  refine lx_nilc rfl rfl rfl ?_
  refine lx_fak 0 rfl Try.underlying135 rfl Try.sizeOf46 (by decide) rfl rfl rfl ?_
  refine lx_loadl 0 rfl rfl rfl Try.isAgg46 rfl rfl ?_
  refine lx_move rfl rfl rfl ?_
  refine lx_move rfl rfl rfl ?_
  refine lx_slsl3 (l := 0) (h' := m) (m := m) rfl Try.underlying46 Try.sizeOf5 rfl rfl rfl ⟨Nat.zero_le _, Nat.le_refl _, by omega⟩ rfl rfl ?_
  rw [cut0, Nat.sub_zero]
  refine lx_assign rfl rfl rfl ?_
  refine lx_assign rfl rfl rfl ?_
  refine lx_nil ?_
  refine x_ret ?_
  repeat (first | refine kseq_ret ?_ | refine kblk_ret ?_)
  exact kret_tt rfl rfl rfl (fun w' hw' => ⟨rfl, hq_mm hw', (hw'.own 0 _ _ _ rfl).1⟩)
theorem pas_c (b : Nat) (a : Option Addr) (c n : Nat) (e : Int) (a2 : Option Addr) (m c2 : Nat) (w : World) (hw : Gt w) (hbl : 0 ≤ b) (ho : OwnB w b [.slice a n c, I e] 135) (hm : m ≤ n) (hc : n ≤ c) : Calls Try.prog 90 [.pointer (some ⟨b, 0, none⟩), .slice a2 m c2].toArray w (fun r w' => r = .returned (.tuple #[]) ∧ MM (fun k => k = b) w w' ∧ OwnB w' b [.slice (cutA a c m) (n - m) (c - m), I e] 135) := by
  have hGF : BOk Gt (plM w (fun k => k = b)) := ok_plM gt_low hw (fun m e => e ▸ hbl)
  refine calls_of_X (G := Gt) Try.func90 rfl rfl (Hp (plM w (fun k => k = b)) [(0, b, [.slice a n c, I e], 135)]) (hp_one' ho rfl) (good_hp hGF) ?_
  refine x_plain (E := EE []) ?_
  refine lx_move rfl rfl rfl ?_
  refine lx_move rfl rfl rfl ?_
  refine lx_nilc rfl rfl rfl ?_
  refine lx_fak 0 rfl Try.underlying135 rfl Try.sizeOf46 (by decide) rfl rfl rfl ?_
  refine lx_loadl 0 rfl rfl rfl Try.isAgg46 rfl rfl ?_
  refine lx_move rfl rfl rfl ?_
  refine lx_len rfl (fun _ => len_slice Try.underlying46 _ _ _ _) rfl rfl ?_
  refine lx_slsl (l := m) (h' := n) rfl Try.underlying46 Try.sizeOf5 rfl rfl ⟨hm, hc⟩ rfl rfl ?_
  refine lx_nilc rfl rfl rfl ?_
  refine lx_fak 0 rfl Try.underlying135 rfl Try.sizeOf46 (by decide) rfl rfl rfl ?_
  refine lx_store 0 hGF rfl rfl rfl Try.sizeOf46 rfl (by simp [*]) rfl ?_
  refine lx_nil ?_
  exact (by first | exact kret_none rfl (fun w' hw' => ⟨rfl, hq_mm hw', (hw'.own 0 _ _ _ rfl).1⟩) | exact kend_none rfl (fun w' hw' => ⟨rfl, hq_mm hw', (hw'.own 0 _ _ _ rfl).1⟩))
theorem nof_len (bs : List (BitVec 8)) (len : Nat) (hlen : bs.length = len) (a : Option Addr) (cap : Nat) (hl : len ≤ 1000000) (w : World) (hw : Gt w) (hb : BytesAt w a bs) : Calls Try.prog 91 [.slice a len cap].toArray w (fun e w' => e = .returned (U64 (pn bs len)) ∧ Grow w w') := by
  subst hlen; exact nof_calls bs a cap hl w hw hb
theorem ru_e (b : Nat) (a : Option Addr) (c n : Nat) (e : Int) (w : World) (hw : Gt w) (hbl : 0 ≤ b) (ho : OwnB w b [.slice a n c, I e] 135) (he : e ≠ 0) : Calls Try.prog 75 [.pointer (some ⟨b, 0, none⟩)].toArray w (fun r w' => r = .returned (U64 0#64) ∧ MM (fun k => k = b) w w' ∧ OwnB w' b [.slice a n c, I e] 135) := by
  have hGF : BOk Gt (plM w (fun k => k = b)) := ok_plM gt_low hw (fun m e => e ▸ hbl)
  refine calls_of_X (G := Gt) Try.func75 rfl rfl (Hp (plM w (fun k => k = b)) [(0, b, [.slice a n c, I e], 135)]) (hp_one' ho rfl) (good_hp hGF) ?_
  refine xs_plain (E := EE [89, 90]) ?_
  refine lx_assign rfl rfl rfl ?_
  refine lx_nil ?_
  refine xs_plain (E := EE [89, 90]) ?_
  refine lx_move rfl rfl rfl ?_
  refine lx_callE rfl rfl ent89 rfl rfl (fun w1 hC => (cut_e b a c n e 8 w1 (hGF.g _ _ _ hC) hbl (hC.own 0 _ _ _ rfl).1 he).mono fun e1 w2 h => ?_)
  obtain ⟨rfl, hm, hO⟩ := h
  refine ⟨_, _, rfl, good_hp hGF, hC.mod hGF.r (n := 0) rfl (mod_mm hm) hO, ?_⟩
  clear hC hm hO
  refine lx_move rfl rfl rfl ?_
  refine lx_ext rfl rfl rfl rfl ?_
  refine lx_ext rfl rfl rfl rfl ?_
  refine lx_assign rfl rfl rfl ?_
  refine lx_assign rfl rfl rfl ?_
  refine lx_nil ?_
  refine x_seq ?_
  refine xs_plain (E := EE [89, 90]) ?_
  refine lx_move rfl rfl rfl ?_
  refine lx_un rfl (fun _ => un_not _) rfl rfl ?_
  refine lx_nil ?_
  refine x_true rfl ?_
  refine xs_plain (E := EE [89, 90]) ?_
  refine lx_assign rfl rfl rfl ?_
  refine lx_nil ?_
  refine x_ret ?_
  repeat (first | refine kseq_ret ?_ | refine kblk_ret ?_)
  exact kret_tmp rfl rfl (fun w' hw' => ⟨rfl, hq_mm hw', (hw'.own 0 _ _ _ rfl).1⟩)
theorem ru_l (b : Nat) (a : Option Addr) (c n : Nat) (w : World) (hw : Gt w) (hbl : 0 ≤ b) (ho : OwnB w b [.slice a n c, I 0] 135) (hm : n < 8) : Calls Try.prog 75 [.pointer (some ⟨b, 0, none⟩)].toArray w (fun r w' => r = .returned (U64 0#64) ∧ MM (fun k => k = b) w w' ∧ OwnB w' b [.slice a n c, I 170] 135) := by
  have hGF : BOk Gt (plM w (fun k => k = b)) := ok_plM gt_low hw (fun m e => e ▸ hbl)
  refine calls_of_X (G := Gt) Try.func75 rfl rfl (Hp (plM w (fun k => k = b)) [(0, b, [.slice a n c, I 0], 135)]) (hp_one' ho rfl) (good_hp hGF) ?_
  refine xs_plain (E := EE [89, 90]) ?_
  refine lx_assign rfl rfl rfl ?_
  refine lx_nil ?_
  refine xs_plain (E := EE [89, 90]) ?_
  refine lx_move rfl rfl rfl ?_
  refine lx_callE rfl rfl ent89 rfl rfl (fun w1 hC => (cut_l b a c n 8 w1 (hGF.g _ _ _ hC) hbl (hC.own 0 _ _ _ rfl).1 hm).mono fun e1 w2 h => ?_)
  obtain ⟨rfl, hm, hO⟩ := h
  refine ⟨_, _, rfl, good_hp hGF, hC.mod hGF.r (n := 0) rfl (mod_mm hm) hO, ?_⟩
  clear hC hm hO
  refine lx_move rfl rfl rfl ?_
  refine lx_ext rfl rfl rfl rfl ?_
  refine lx_ext rfl rfl rfl rfl ?_
  refine lx_assign rfl rfl rfl ?_
  refine lx_assign rfl rfl rfl ?_
  refine lx_nil ?_
  refine x_seq ?_
  refine xs_plain (E := EE [89, 90]) ?_
  refine lx_move rfl rfl rfl ?_
  refine lx_un rfl (fun _ => un_not _) rfl rfl ?_
  refine lx_nil ?_
  refine x_true rfl ?_
  refine xs_plain (E := EE [89, 90]) ?_
  refine lx_assign rfl rfl rfl ?_
  refine lx_nil ?_
  refine x_ret ?_
  repeat (first | refine kseq_ret ?_ | refine kblk_ret ?_)
  exact kret_tmp rfl rfl (fun w' hw' => ⟨rfl, hq_mm hw', (hw'.own 0 _ _ _ rfl).1⟩)
theorem ru_k (b : Nat) (a : Option Addr) (c : Nat) (bs : List (BitVec 8)) (w : World) (hw : Gt w) (hbl : 0 ≤ b) (ho : OwnB w b [.slice a bs.length c, I 0] 135) (hm : 8 ≤ bs.length) (hc : bs.length ≤ c) (hy : BytesAt w a bs) (hs : ∀ ad, a = some ad → ¬ ad.block = b) : Calls Try.prog 75 [.pointer (some ⟨b, 0, none⟩)].toArray w (fun r w' => r = .returned (U64 (pn (bs.take 8) 8)) ∧ MM (fun k => k = b) w w' ∧ OwnB w' b [.slice (cutA a c 8) (bs.length - 8) (c - 8), I 0] 135) := by
  have hGF : BOk Gt (plM w (fun k => k = b)) := ok_plM gt_low hw (fun m e => e ▸ hbl)
  refine calls_of_X (G := Gt) Try.func75 rfl rfl (Hp (plM w (fun k => k = b)) [(0, b, [.slice a bs.length c, I 0], 135)]) (hp_one' ho rfl) (good_hp hGF) ?_
  refine xs_plain (E := EE [89, 90]) ?_
  refine lx_assign rfl rfl rfl ?_
  refine lx_nil ?_
  refine xs_plain (E := EE [89, 90]) ?_
  refine lx_move rfl rfl rfl ?_
  refine lx_callE rfl rfl ent89 rfl rfl (fun w1 hC => (cut_k b a c bs.length 8 w1 (hGF.g _ _ _ hC) hbl (hC.own 0 _ _ _ rfl).1 hm hc).mono fun e1 w2 h => ?_)
  obtain ⟨rfl, hm, hO⟩ := h
  refine ⟨_, _, rfl, good_hp hGF, hC.mod hGF.r (n := 0) rfl (mod_mm hm) hO, ?_⟩
  clear hC hm hO
  refine lx_move rfl rfl rfl ?_
  refine lx_ext rfl rfl rfl rfl ?_
  refine lx_ext rfl rfl rfl rfl ?_
  refine lx_assign rfl rfl rfl ?_
  refine lx_assign rfl rfl rfl ?_
  refine lx_nil ?_
  refine x_seq ?_
  refine xs_plain (E := EE [89, 90]) ?_
  refine lx_move rfl rfl rfl ?_
  refine lx_un rfl (fun _ => un_not _) rfl rfl ?_
  refine lx_nil ?_
  refine x_false rfl ?_
  refine x_skip ?_
  refine xs_plain (E := EE [89, 90]) ?_
  refine lx_move rfl rfl rfl ?_
  refine lx_move rfl rfl rfl ?_
  refine lx_callE rfl rfl ent90 rfl rfl (fun w1 hC => (pas_c b a c bs.length 0 a 8 8 w1 (hGF.g _ _ _ hC) hbl (hC.own 0 _ _ _ rfl).1 hm hc).mono fun e1 w2 h => ?_)
  obtain ⟨rfl, hm, hO⟩ := h
  refine ⟨_, _, rfl, good_hp hGF, hC.mod hGF.r (n := 0) rfl (mod_mm hm) hO, ?_⟩
  clear hC hm hO
  refine lx_nil ?_
  refine xs_plain (E := EE [89, 90]) ?_
  refine lx_move rfl rfl rfl ?_
  refine lx_callC rfl rfl ent91 (fun w1 hC hG => nof_len (bs.take 8) 8 (by rw [List.length_take]; omega) a 8 (by omega) w1 hG (((hq_mm hC).bytes hy hs).take 8)) rfl rfl ?_
  refine lx_assign rfl rfl rfl ?_
  refine lx_nil ?_
  refine x_ret ?_
  repeat (first | refine kseq_ret ?_ | refine kblk_ret ?_)
  exact kret_tmp rfl rfl (fun w' hw' => ⟨rfl, hq_mm hw', (hw'.own 0 _ _ _ rfl).1⟩)
theorem ru_calls (S : Nat → Prop) (b : Nat) (bs : List (BitVec 8)) (e : Int) (w : World) (hw : Gt w) (hbl : 0 ≤ b) (hr : RdAt 135 S w b bs e) : Calls Try.prog 75 [.pointer (some ⟨b, 0, none⟩)].toArray w (fun r w' => ∃ v, r = .returned v ∧ MM (fun k => k = b) w w' ∧ v = U64 (pn (got bs e 8) (got bs e 8).length) ∧ RdAt 135 S w' b (lft bs e 8) (err bs e 8)) := by
  obtain ⟨a, c, ho, hc, hy, hs⟩ := hr
  by_cases he : e = 0
  · subst he
    rcases Nat.lt_or_ge bs.length 8 with h | h
    · obtain ⟨e1, e2, e3⟩ := rd_l h
      rw [e1, e2, e3]
      exact (ru_l b a c bs.length w hw hbl ho h).mono fun r w' ⟨h1, h2, h3⟩ => ⟨_, h1, h2, rfl, a, c, h3, hc, h2.bytes hy (fun ad e h => (hs ad e).2 h), hs⟩
    · obtain ⟨e1, e2, e3⟩ := rd_k h
      rw [e1, e2, e3]
      exact (ru_k b a c bs w hw hbl ho h hc hy (fun ad e => (hs ad e).2)).mono fun r w' ⟨h1, h2, h3⟩ => ⟨_, h1, h2, by rw [List.length_take, Nat.min_eq_left h], rd_pass hc h hy hs h2 h3⟩
  · obtain ⟨e1, e2, e3⟩ := rd_e (bs := bs) 8 he
    rw [e1, e2, e3]
    exact (ru_e b a c bs.length e w hw hbl ho he).mono fun r w' ⟨h1, h2, h3⟩ => ⟨_, h1, h2, rfl, a, c, h3, hc, h2.bytes hy (fun ad e h => (hs ad e).2 h), hs⟩
theorem cln_len (bs : List (BitVec 8)) (len : Nat) (hlen : bs.length = len) (a : Option Addr) (cap : Nat) (hl : len ≤ 1000000) (w : World) (hw : Gt w) (hb : BytesAt w a bs) : Calls Try.prog 76 [.slice a len cap].toArray w (fun e w' => ∃ v, e = .returned v ∧ Grow w w' ∧ Fr8 w w' v bs) := by
  subst hlen; exact cln_calls bs a cap hl w hw hb
theorem Fr8.up {w w1 w2 w3 : World} {v : Value} {xs : List (BitVec 8)} {b : Nat} (h : Fr8 w1 w2 v xs) (h1 : w.heap.size ≤ w1.heap.size) (hb : b < w1.heap.size) (h3 : MM (fun k => k = b) w2 w3) : Fr8 w w3 v xs := by
  obtain ⟨a, cap, e, hs, hn⟩ := h
  exact ⟨a, cap, e, hs.mm h3 (fun ad e h => by have := hn ad e; omega), fun ad e => Nat.le_trans h1 (hn ad e)⟩
theorem FrB.up {w w1 w2 w3 : World} {v : Value} {xs : List Bool} {b : Nat} (h : FrB w1 w2 v xs) (h1 : w.heap.size ≤ w1.heap.size) (hb : b < w1.heap.size) (h3 : MM (fun k => k = b) w2 w3) : FrB w w3 v xs := by
  obtain ⟨a, cap, e, hs, hn⟩ := h
  exact ⟨a, cap, e, hs.mm h3 (fun ad e h => by have := hn ad e; omega), fun ad e => Nat.le_trans h1 (hn ad e)⟩
theorem rb_e (b : Nat) (a : Option Addr) (c n : Nat) (e : Int) (z : Int) (w : World) (hw : Gt w) (hbl : 0 ≤ b) (ho : OwnB w b [.slice a n c, I e] 135) (he : e ≠ 0) : Calls Try.prog 80 [.pointer (some ⟨b, 0, none⟩), I z].toArray w (fun r w' => r = .returned (.slice none 0 0) ∧ MM (fun k => k = b) w w' ∧ OwnB w' b [.slice a n c, I e] 135) := by
  have hGF : BOk Gt (plM w (fun k => k = b)) := ok_plM gt_low hw (fun m e => e ▸ hbl)
  refine calls_of_X (G := Gt) Try.func80 rfl rfl (Hp (plM w (fun k => k = b)) [(0, b, [.slice a n c, I e], 135)]) (hp_one' ho rfl) (good_hp hGF) ?_
  refine xs_plain (E := EE [89, 90, 76]) ?_
  refine lx_assign rfl rfl rfl ?_
  refine lx_nil ?_
  refine xs_plain (E := EE [89, 90, 76]) ?_
  refine lx_move rfl rfl rfl ?_
  refine lx_move rfl rfl rfl ?_
  refine lx_max (z := ((z.toNat : Nat) : Int)) rfl rfl (by split <;> omega) rfl rfl ?_
  refine lx_callE rfl rfl ent89 rfl rfl (fun w1 hC => (cut_e b a c n e z.toNat w1 (hGF.g _ _ _ hC) hbl (hC.own 0 _ _ _ rfl).1 he).mono fun e1 w2 h => ?_)
  obtain ⟨rfl, hm, hO⟩ := h
  refine ⟨_, _, rfl, good_hp hGF, hC.mod hGF.r (n := 0) rfl (mod_mm hm) hO, ?_⟩
  clear hC hm hO
  refine lx_move rfl rfl rfl ?_
  refine lx_ext rfl rfl rfl rfl ?_
  refine lx_ext rfl rfl rfl rfl ?_
  refine lx_assign rfl rfl rfl ?_
  refine lx_assign rfl rfl rfl ?_
  refine lx_nil ?_
  refine x_seq ?_
  refine xs_plain (E := EE [89, 90, 76]) ?_
  refine lx_move rfl rfl rfl ?_
  refine lx_un rfl (fun _ => un_not _) rfl rfl ?_
  refine lx_nil ?_
  refine x_true rfl ?_
  refine xs_plain (E := EE [89, 90, 76]) ?_
  refine lx_assign rfl rfl rfl ?_
  refine lx_nil ?_
  refine x_ret ?_
  repeat (first | refine kseq_ret ?_ | refine kblk_ret ?_)
  exact kret_tmp rfl rfl (fun w' hw' => ⟨rfl, hq_mm hw', (hw'.own 0 _ _ _ rfl).1⟩)
theorem rb_l (b : Nat) (a : Option Addr) (c n : Nat) (z : Int) (w : World) (hw : Gt w) (hbl : 0 ≤ b) (ho : OwnB w b [.slice a n c, I 0] 135) (hm : n < z.toNat) : Calls Try.prog 80 [.pointer (some ⟨b, 0, none⟩), I z].toArray w (fun r w' => r = .returned (.slice none 0 0) ∧ MM (fun k => k = b) w w' ∧ OwnB w' b [.slice a n c, I 170] 135) := by
  have hGF : BOk Gt (plM w (fun k => k = b)) := ok_plM gt_low hw (fun m e => e ▸ hbl)
  refine calls_of_X (G := Gt) Try.func80 rfl rfl (Hp (plM w (fun k => k = b)) [(0, b, [.slice a n c, I 0], 135)]) (hp_one' ho rfl) (good_hp hGF) ?_
  refine xs_plain (E := EE [89, 90, 76]) ?_
  refine lx_assign rfl rfl rfl ?_
  refine lx_nil ?_
  refine xs_plain (E := EE [89, 90, 76]) ?_
  refine lx_move rfl rfl rfl ?_
  refine lx_move rfl rfl rfl ?_
  refine lx_max (z := ((z.toNat : Nat) : Int)) rfl rfl (by split <;> omega) rfl rfl ?_
  refine lx_callE rfl rfl ent89 rfl rfl (fun w1 hC => (cut_l b a c n z.toNat w1 (hGF.g _ _ _ hC) hbl (hC.own 0 _ _ _ rfl).1 hm).mono fun e1 w2 h => ?_)
  obtain ⟨rfl, hm, hO⟩ := h
  refine ⟨_, _, rfl, good_hp hGF, hC.mod hGF.r (n := 0) rfl (mod_mm hm) hO, ?_⟩
  clear hC hm hO
  refine lx_move rfl rfl rfl ?_
  refine lx_ext rfl rfl rfl rfl ?_
  refine lx_ext rfl rfl rfl rfl ?_
  refine lx_assign rfl rfl rfl ?_
  refine lx_assign rfl rfl rfl ?_
  refine lx_nil ?_
  refine x_seq ?_
  refine xs_plain (E := EE [89, 90, 76]) ?_
  refine lx_move rfl rfl rfl ?_
  refine lx_un rfl (fun _ => un_not _) rfl rfl ?_
  refine lx_nil ?_
  refine x_true rfl ?_
  refine xs_plain (E := EE [89, 90, 76]) ?_
  refine lx_assign rfl rfl rfl ?_
  refine lx_nil ?_
  refine x_ret ?_
  repeat (first | refine kseq_ret ?_ | refine kblk_ret ?_)
  exact kret_tmp rfl rfl (fun w' hw' => ⟨rfl, hq_mm hw', (hw'.own 0 _ _ _ rfl).1⟩)
theorem rb_k (b : Nat) (a : Option Addr) (c : Nat) (bs : List (BitVec 8)) (z : Int) (w : World) (hw : Gt w) (hbl : 0 ≤ b) (ho : OwnB w b [.slice a bs.length c, I 0] 135) (hm : z.toNat ≤ bs.length) (hc : bs.length ≤ c) (hl : bs.length ≤ 1000000) (hy : BytesAt w a bs) (hs : ∀ ad, a = some ad → ¬ ad.block = b) : Calls Try.prog 80 [.pointer (some ⟨b, 0, none⟩), I z].toArray w (fun r w' => ∃ v, r = .returned v ∧ MM (fun k => k = b) w w' ∧ OwnB w' b [.slice (cutA a c z.toNat) (bs.length - z.toNat) (c - z.toNat), I 0] 135 ∧ Fr8 w w' v (bs.take z.toNat)) := by
  have hGF : BOk Gt (plM w (fun k => k = b)) := ok_plM gt_low hw (fun m e => e ▸ hbl)
  refine calls_of_X (G := Gt) Try.func80 rfl rfl (Hp (plM w (fun k => k = b)) [(0, b, [.slice a bs.length c, I 0], 135)]) (hp_one' ho rfl) (good_hp hGF) ?_
  refine xs_plain (E := EE [89, 90, 76]) ?_
  refine lx_assign rfl rfl rfl ?_
  refine lx_nil ?_
  refine xs_plain (E := EE [89, 90, 76]) ?_
  refine lx_move rfl rfl rfl ?_
  refine lx_move rfl rfl rfl ?_
  refine lx_max (z := ((z.toNat : Nat) : Int)) rfl rfl (by split <;> omega) rfl rfl ?_
  refine lx_callE rfl rfl ent89 rfl rfl (fun w1 hC => (cut_k b a c bs.length z.toNat w1 (hGF.g _ _ _ hC) hbl (hC.own 0 _ _ _ rfl).1 hm hc).mono fun e1 w2 h => ?_)
  obtain ⟨rfl, hm, hO⟩ := h
  refine ⟨_, _, rfl, good_hp hGF, hC.mod hGF.r (n := 0) rfl (mod_mm hm) hO, ?_⟩
  clear hC hm hO
  refine lx_move rfl rfl rfl ?_
  refine lx_ext rfl rfl rfl rfl ?_
  refine lx_ext rfl rfl rfl rfl ?_
  refine lx_assign rfl rfl rfl ?_
  refine lx_assign rfl rfl rfl ?_
  refine lx_nil ?_
  refine x_seq ?_
  refine xs_plain (E := EE [89, 90, 76]) ?_
  refine lx_move rfl rfl rfl ?_
  refine lx_un rfl (fun _ => un_not _) rfl rfl ?_
  refine lx_nil ?_
  refine x_false rfl ?_
  refine x_skip ?_
  refine xs_plain (E := EE [89, 90, 76]) ?_
  refine lx_move rfl rfl rfl ?_
  refine lx_move rfl rfl rfl ?_
  refine lx_callE rfl rfl ent90 rfl rfl (fun w1 hC => (pas_c b a c bs.length 0 a z.toNat z.toNat w1 (hGF.g _ _ _ hC) hbl (hC.own 0 _ _ _ rfl).1 hm hc).mono fun e1 w2 h => ?_)
  obtain ⟨rfl, hm, hO⟩ := h
  refine ⟨_, _, rfl, good_hp hGF, hC.mod hGF.r (n := 0) rfl (mod_mm hm) hO, ?_⟩
  clear hC hm hO
  refine lx_nil ?_
  refine xs_plain (E := EE [89, 90, 76]) ?_
  refine lx_move rfl rfl rfl ?_
  refine lx_callE rfl rfl ent76 rfl rfl (fun w1 hC => (cln_len (bs.take z.toNat) z.toNat (by rw [List.length_take]; omega) a z.toNat (by omega) w1 (hGF.g _ _ _ hC) (((hq_mm hC).bytes hy hs).take _)).mono fun e1 w2 h => ?_)
  obtain ⟨v, rfl, hg, hv⟩ := h
  have hg2 : Gt w2 := gt_low.grow (hGF.g _ _ _ hC) hg
  refine ⟨_, Hp (pl w2) [], rfl, good_hp (gt_low.plain hg2), hp_refl (pl w2) trivial rides_true, ?_⟩
  refine lx_assign rfl rfl rfl ?_
  refine lx_nil ?_
  refine x_ret ?_
  repeat (first | refine kseq_ret ?_ | refine kblk_ret ?_)
  exact kret_tmp rfl rfl (fun w' hw' => ⟨v, rfl, ((hq_mm hC).trans (grow_mm hg)).trans (grow_mm (hp_below hw')), ((hC.own 0 _ _ _ rfl).1.grow hg).grow (hp_below hw'), hv.up hC.size (hC.own 0 _ _ _ rfl).1.lt (grow_mm (hp_below hw'))⟩)
theorem rb_calls (S : Nat → Prop) (b : Nat) (bs : List (BitVec 8)) (e : Int) (z : Int) (hl : bs.length ≤ 1000000) (w : World) (hw : Gt w) (hbl : 0 ≤ b) (hr : RdAt 135 S w b bs e) : Calls Try.prog 80 [.pointer (some ⟨b, 0, none⟩), I z].toArray w (fun r w' => ∃ v, r = .returned v ∧ MM (fun k => k = b) w w' ∧ Fr8 w w' v (got bs e z.toNat) ∧ RdAt 135 S w' b (lft bs e z.toNat) (err bs e z.toNat)) := by
  obtain ⟨a, c, ho, hc, hy, hs⟩ := hr
  by_cases he : e = 0
  · subst he
    rcases Nat.lt_or_ge bs.length z.toNat with h | h
    · obtain ⟨e1, e2, e3⟩ := rd_l h
      rw [e1, e2, e3]
      exact (rb_l b a c bs.length z w hw hbl ho h).mono fun r w' ⟨h1, h2, h3⟩ => ⟨_, h1, h2, fr8_nil _ _, a, c, h3, hc, h2.bytes hy (fun ad e h => (hs ad e).2 h), hs⟩
    · obtain ⟨e1, e2, e3⟩ := rd_k h
      rw [e1, e2, e3]
      exact (rb_k b a c bs z w hw hbl ho h hc hl hy (fun ad e => (hs ad e).2)).mono fun r w' ⟨v, h1, h2, h3, h4⟩ => ⟨v, h1, h2, h4, rd_pass hc h hy hs h2 h3⟩
  · obtain ⟨e1, e2, e3⟩ := rd_e (bs := bs) z.toNat he
    rw [e1, e2, e3]
    exact (rb_e b a c bs.length e z w hw hbl ho he).mono fun r w' ⟨h1, h2, h3⟩ => ⟨_, h1, h2, fr8_nil _ _, a, c, h3, hc, h2.bytes hy (fun ad e h => (hs ad e).2 h), hs⟩
theorem bof_len (bs : List (BitVec 8)) (len : Nat) (hlen : bs.length = len) (a : Option Addr) (cap n : Nat) (hl : n ≤ 1000000) (hn : len = szB n) (w : World) (hw : Gt w) (hb : BytesAt w a bs) : Calls Try.prog 94 [.slice a len cap, I (n : Int)].toArray w (fun e w' => ∃ v, e = .returned v ∧ Grow w w' ∧ BofV w w' v bs n) := by
  subst hlen; exact bof_calls bs a cap n hl hn w hw hb
/-- Bits that are read; what is left; the error. -/
def gotB (bs : List (BitVec 8)) (e : Int) (m : Nat) : List Bool := if e = 0 ∧ szB m ≤ bs.length ∧ cleanB (bs.take (szB m)) m = true then bt (bs.take (szB m)) m else []
def lftB (bs : List (BitVec 8)) (e : Int) (m : Nat) : List (BitVec 8) := if e = 0 ∧ szB m ≤ bs.length ∧ cleanB (bs.take (szB m)) m = true then bs.drop (szB m) else bs
def errB (bs : List (BitVec 8)) (e : Int) (m : Nat) : Int := if e = 0 then (if bs.length < szB m then 170 else bif cleanB (bs.take (szB m)) m then 0 else 171) else e
theorem rt_e (b : Nat) (a : Option Addr) (c n : Nat) (e : Int) (z : Int) (w : World) (hw : Gt w) (hbl : 0 ≤ b) (ho : OwnB w b [.slice a n c, I e] 135) (hz : z.toNat < 9223372036854775808) (he : e ≠ 0) : Calls Try.prog 86 [.pointer (some ⟨b, 0, none⟩), I z].toArray w (fun r w' => r = .returned (.slice none 0 0) ∧ MM (fun k => k = b) w w' ∧ OwnB w' b [.slice a n c, I e] 135) := by
  have hGF : BOk Gt (plM w (fun k => k = b)) := ok_plM gt_low hw (fun m e => e ▸ hbl)
  refine calls_of_X (G := Gt) Try.func86 rfl rfl (Hp (plM w (fun k => k = b)) [(0, b, [.slice a n c, I e], 135)]) (hp_one' ho rfl) (good_hp hGF) ?_
  refine xs_plain (E := EE [89, 90, 94]) ?_
  refine lx_assign rfl rfl rfl ?_
  refine lx_nil ?_
  refine xs_plain (E := EE [89, 90, 94]) ?_
  refine lx_move rfl rfl rfl ?_
  refine lx_max (z := ((z.toNat : Nat) : Int)) rfl rfl (by split <;> omega) rfl rfl ?_
  refine lx_assign rfl rfl rfl ?_
  refine lx_nil ?_
  refine xs_plain (E := EE [89, 90, 94]) ?_
  refine lx_move rfl rfl rfl ?_
  refine lx_move rfl rfl rfl ?_
  refine lx_call rfl rfl ent93 (szo_pure z.toNat hz) rfl rfl ?_
  refine lx_callE rfl rfl ent89 rfl rfl (fun w1 hC => (cut_e b a c n e (szB z.toNat) w1 (hGF.g _ _ _ hC) hbl (hC.own 0 _ _ _ rfl).1 he).mono fun e1 w2 h => ?_)
  obtain ⟨rfl, hm, hO⟩ := h
  refine ⟨_, _, rfl, good_hp hGF, hC.mod hGF.r (n := 0) rfl (mod_mm hm) hO, ?_⟩
  clear hC hm hO
  refine lx_move rfl rfl rfl ?_
  refine lx_ext rfl rfl rfl rfl ?_
  refine lx_ext rfl rfl rfl rfl ?_
  refine lx_assign rfl rfl rfl ?_
  refine lx_assign rfl rfl rfl ?_
  refine lx_nil ?_
  refine x_seq ?_
  refine xs_plain (E := EE [89, 90, 94]) ?_
  refine lx_move rfl rfl rfl ?_
  refine lx_un rfl (fun _ => un_not _) rfl rfl ?_
  refine lx_nil ?_
  refine x_true rfl ?_
  refine xs_plain (E := EE [89, 90, 94]) ?_
  refine lx_assign rfl rfl rfl ?_
  refine lx_nil ?_
  refine x_ret ?_
  repeat (first | refine kseq_ret ?_ | refine kblk_ret ?_)
  exact kret_tmp rfl rfl (fun w' hw' => ⟨rfl, hq_mm hw', (hw'.own 0 _ _ _ rfl).1⟩)
theorem rt_l (b : Nat) (a : Option Addr) (c n : Nat) (z : Int) (w : World) (hw : Gt w) (hbl : 0 ≤ b) (ho : OwnB w b [.slice a n c, I 0] 135) (hz : z.toNat < 9223372036854775808) (hm : n < (szB z.toNat)) : Calls Try.prog 86 [.pointer (some ⟨b, 0, none⟩), I z].toArray w (fun r w' => r = .returned (.slice none 0 0) ∧ MM (fun k => k = b) w w' ∧ OwnB w' b [.slice a n c, I 170] 135) := by
  have hGF : BOk Gt (plM w (fun k => k = b)) := ok_plM gt_low hw (fun m e => e ▸ hbl)
  refine calls_of_X (G := Gt) Try.func86 rfl rfl (Hp (plM w (fun k => k = b)) [(0, b, [.slice a n c, I 0], 135)]) (hp_one' ho rfl) (good_hp hGF) ?_
  refine xs_plain (E := EE [89, 90, 94]) ?_
  refine lx_assign rfl rfl rfl ?_
  refine lx_nil ?_
  refine xs_plain (E := EE [89, 90, 94]) ?_
  refine lx_move rfl rfl rfl ?_
  refine lx_max (z := ((z.toNat : Nat) : Int)) rfl rfl (by split <;> omega) rfl rfl ?_
  refine lx_assign rfl rfl rfl ?_
  refine lx_nil ?_
  refine xs_plain (E := EE [89, 90, 94]) ?_
  refine lx_move rfl rfl rfl ?_
  refine lx_move rfl rfl rfl ?_
  refine lx_call rfl rfl ent93 (szo_pure z.toNat hz) rfl rfl ?_
  refine lx_callE rfl rfl ent89 rfl rfl (fun w1 hC => (cut_l b a c n (szB z.toNat) w1 (hGF.g _ _ _ hC) hbl (hC.own 0 _ _ _ rfl).1 hm).mono fun e1 w2 h => ?_)
  obtain ⟨rfl, hm, hO⟩ := h
  refine ⟨_, _, rfl, good_hp hGF, hC.mod hGF.r (n := 0) rfl (mod_mm hm) hO, ?_⟩
  clear hC hm hO
  refine lx_move rfl rfl rfl ?_
  refine lx_ext rfl rfl rfl rfl ?_
  refine lx_ext rfl rfl rfl rfl ?_
  refine lx_assign rfl rfl rfl ?_
  refine lx_assign rfl rfl rfl ?_
  refine lx_nil ?_
  refine x_seq ?_
  refine xs_plain (E := EE [89, 90, 94]) ?_
  refine lx_move rfl rfl rfl ?_
  refine lx_un rfl (fun _ => un_not _) rfl rfl ?_
  refine lx_nil ?_
  refine x_true rfl ?_
  refine xs_plain (E := EE [89, 90, 94]) ?_
  refine lx_assign rfl rfl rfl ?_
  refine lx_nil ?_
  refine x_ret ?_
  repeat (first | refine kseq_ret ?_ | refine kblk_ret ?_)
  exact kret_tmp rfl rfl (fun w' hw' => ⟨rfl, hq_mm hw', (hw'.own 0 _ _ _ rfl).1⟩)
theorem rt_d (b : Nat) (a : Option Addr) (c : Nat) (bs : List (BitVec 8)) (z : Int) (w : World) (hw : Gt w) (hbl : 0 ≤ b) (ho : OwnB w b [.slice a bs.length c, I 0] 135) (hz : z.toNat < 9223372036854775808) (hm : (szB z.toNat) ≤ bs.length) (hc : bs.length ≤ c) (hl : bs.length ≤ 100000) (hy : BytesAt w a bs) (hs : ∀ ad, a = some ad → ¬ ad.block = b) (hcl : cleanB (bs.take (szB z.toNat)) z.toNat = false) : Calls Try.prog 86 [.pointer (some ⟨b, 0, none⟩), I z].toArray w (fun r w' => r = .returned (.slice none 0 0) ∧ MM (fun k => k = b) w w' ∧ OwnB w' b [.slice a bs.length c, I 171] 135) := by
  have hGF : BOk Gt (plM w (fun k => k = b)) := ok_plM gt_low hw (fun m e => e ▸ hbl)
  refine calls_of_X (G := Gt) Try.func86 rfl rfl (Hp (plM w (fun k => k = b)) [(0, b, [.slice a bs.length c, I 0], 135)]) (hp_one' ho rfl) (good_hp hGF) ?_
  refine xs_plain (E := EE [89, 90, 94]) ?_
  refine lx_assign rfl rfl rfl ?_
  refine lx_nil ?_
  refine xs_plain (E := EE [89, 90, 94]) ?_
  refine lx_move rfl rfl rfl ?_
  refine lx_max (z := ((z.toNat : Nat) : Int)) rfl rfl (by split <;> omega) rfl rfl ?_
  refine lx_assign rfl rfl rfl ?_
  refine lx_nil ?_
  refine xs_plain (E := EE [89, 90, 94]) ?_
  refine lx_move rfl rfl rfl ?_
  refine lx_move rfl rfl rfl ?_
  refine lx_call rfl rfl ent93 (szo_pure z.toNat hz) rfl rfl ?_
  refine lx_callE rfl rfl ent89 rfl rfl (fun w1 hC => (cut_k b a c bs.length (szB z.toNat) w1 (hGF.g _ _ _ hC) hbl (hC.own 0 _ _ _ rfl).1 hm hc).mono fun e1 w2 h => ?_)
  obtain ⟨rfl, hm, hO⟩ := h
  refine ⟨_, _, rfl, good_hp hGF, hC.mod hGF.r (n := 0) rfl (mod_mm hm) hO, ?_⟩
  clear hC hm hO
  refine lx_move rfl rfl rfl ?_
  refine lx_ext rfl rfl rfl rfl ?_
  refine lx_ext rfl rfl rfl rfl ?_
  refine lx_assign rfl rfl rfl ?_
  refine lx_assign rfl rfl rfl ?_
  refine lx_nil ?_
  refine x_seq ?_
  refine xs_plain (E := EE [89, 90, 94]) ?_
  refine lx_move rfl rfl rfl ?_
  refine lx_un rfl (fun _ => un_not _) rfl rfl ?_
  refine lx_nil ?_
  refine x_false rfl ?_
  refine x_skip ?_
  refine xs_plain (E := EE [89, 90, 94]) ?_
  refine lx_move rfl rfl rfl ?_
  refine lx_move rfl rfl rfl ?_
  refine lx_callE rfl rfl ent94 rfl rfl (fun w1 hC => (bof_len (bs.take (szB z.toNat)) (szB z.toNat) (by rw [List.length_take]; omega) a (szB z.toNat) z.toNat (by unfold szB at hm; omega) rfl w1 (hGF.g _ _ _ hC) (((hq_mm hC).bytes hy hs).take _)).mono fun e1 w2 h => ?_)
  obtain ⟨v, rfl, hg, hv⟩ := h
  have hg2 : Gt w2 := gt_low.grow (hGF.g _ _ _ hC) hg
  have hq1 := hq_mm hC
  have hO1 := (hC.own 0 _ _ _ rfl).1
  have hb1 : b < w1.heap.size := hO1.lt
  rw [BofV, if_neg (by rw [hcl]; decide)] at hv
  subst hv
  refine ⟨_, Hp (plM w2 (fun k => k = b)) [(0, b, [.slice a bs.length c, I 0], 135)], rfl, good_hp (ok_plM gt_low hg2 (fun m e => e ▸ hbl)), hp_one' (hO1.grow hg) rfl, ?_⟩
  have hGF : BOk Gt (plM w2 (fun k => k = b)) := ok_plM gt_low hg2 (fun m e => e ▸ hbl)
  clear hC
  refine lx_move rfl rfl rfl ?_
  refine lx_ext rfl rfl rfl rfl ?_
  refine lx_ext rfl rfl rfl rfl ?_
  refine lx_assign rfl rfl rfl ?_
  refine lx_assign rfl rfl rfl ?_
  refine lx_nil ?_
  refine x_seq ?_
  refine xs_plain (E := EE [89, 90, 94]) ?_
  refine lx_move rfl rfl rfl ?_
  refine lx_un rfl (fun _ => un_not _) rfl rfl ?_
  refine lx_nil ?_
  refine x_true rfl ?_
  refine xs_plain (E := EE [89, 90, 94]) ?_
  refine lx_move rfl rfl rfl ?_
  refine lx_nilc rfl rfl rfl ?_
  refine lx_fak 1 rfl Try.underlying135 rfl Try.sizeOf51 (by decide) rfl rfl rfl ?_
  refine lx_store 0 hGF rfl rfl rfl Try.sizeOf51 rfl (by simp [*]) rfl ?_
  refine lx_nil ?_
  refine xs_plain (E := EE [89, 90, 94]) ?_
  refine lx_assign rfl rfl rfl ?_
  refine lx_nil ?_
  refine x_ret ?_
  repeat (first | refine kseq_ret ?_ | refine kblk_ret ?_)
  exact kret_tmp rfl rfl (fun w' hw' => ⟨rfl, (hq1.trans (grow_mm hg)).trans (hq_mm hw'), (hw'.own 0 _ _ _ rfl).1⟩)
theorem rt_k (b : Nat) (a : Option Addr) (c : Nat) (bs : List (BitVec 8)) (z : Int) (w : World) (hw : Gt w) (hbl : 0 ≤ b) (ho : OwnB w b [.slice a bs.length c, I 0] 135) (hz : z.toNat < 9223372036854775808) (hm : (szB z.toNat) ≤ bs.length) (hc : bs.length ≤ c) (hl : bs.length ≤ 100000) (hy : BytesAt w a bs) (hs : ∀ ad, a = some ad → ¬ ad.block = b) (hcl : cleanB (bs.take (szB z.toNat)) z.toNat = true) : Calls Try.prog 86 [.pointer (some ⟨b, 0, none⟩), I z].toArray w (fun r w' => ∃ v, r = .returned v ∧ MM (fun k => k = b) w w' ∧ OwnB w' b [.slice (cutA a c (szB z.toNat)) (bs.length - (szB z.toNat)) (c - (szB z.toNat)), I 0] 135 ∧ FrB w w' v (bt (bs.take (szB z.toNat)) z.toNat)) := by
  have hGF : BOk Gt (plM w (fun k => k = b)) := ok_plM gt_low hw (fun m e => e ▸ hbl)
  refine calls_of_X (G := Gt) Try.func86 rfl rfl (Hp (plM w (fun k => k = b)) [(0, b, [.slice a bs.length c, I 0], 135)]) (hp_one' ho rfl) (good_hp hGF) ?_
  refine xs_plain (E := EE [89, 90, 94]) ?_
  refine lx_assign rfl rfl rfl ?_
  refine lx_nil ?_
  refine xs_plain (E := EE [89, 90, 94]) ?_
  refine lx_move rfl rfl rfl ?_
  refine lx_max (z := ((z.toNat : Nat) : Int)) rfl rfl (by split <;> omega) rfl rfl ?_
  refine lx_assign rfl rfl rfl ?_
  refine lx_nil ?_
  refine xs_plain (E := EE [89, 90, 94]) ?_
  refine lx_move rfl rfl rfl ?_
  refine lx_move rfl rfl rfl ?_
  refine lx_call rfl rfl ent93 (szo_pure z.toNat hz) rfl rfl ?_
  refine lx_callE rfl rfl ent89 rfl rfl (fun w1 hC => (cut_k b a c bs.length (szB z.toNat) w1 (hGF.g _ _ _ hC) hbl (hC.own 0 _ _ _ rfl).1 hm hc).mono fun e1 w2 h => ?_)
  obtain ⟨rfl, hm, hO⟩ := h
  refine ⟨_, _, rfl, good_hp hGF, hC.mod hGF.r (n := 0) rfl (mod_mm hm) hO, ?_⟩
  clear hC hm hO
  refine lx_move rfl rfl rfl ?_
  refine lx_ext rfl rfl rfl rfl ?_
  refine lx_ext rfl rfl rfl rfl ?_
  refine lx_assign rfl rfl rfl ?_
  refine lx_assign rfl rfl rfl ?_
  refine lx_nil ?_
  refine x_seq ?_
  refine xs_plain (E := EE [89, 90, 94]) ?_
  refine lx_move rfl rfl rfl ?_
  refine lx_un rfl (fun _ => un_not _) rfl rfl ?_
  refine lx_nil ?_
  refine x_false rfl ?_
  refine x_skip ?_
  refine xs_plain (E := EE [89, 90, 94]) ?_
  refine lx_move rfl rfl rfl ?_
  refine lx_move rfl rfl rfl ?_
  refine lx_callE rfl rfl ent94 rfl rfl (fun w1 hC => (bof_len (bs.take (szB z.toNat)) (szB z.toNat) (by rw [List.length_take]; omega) a (szB z.toNat) z.toNat (by unfold szB at hm; omega) rfl w1 (hGF.g _ _ _ hC) (((hq_mm hC).bytes hy hs).take _)).mono fun e1 w2 h => ?_)
  obtain ⟨v, rfl, hg, hv⟩ := h
  have hg2 : Gt w2 := gt_low.grow (hGF.g _ _ _ hC) hg
  have hq1 := hq_mm hC
  have hO1 := (hC.own 0 _ _ _ rfl).1
  have hb1 : b < w1.heap.size := hO1.lt
  rw [BofV, if_pos hcl] at hv
  obtain ⟨u, rfl, hu⟩ := hv
  refine ⟨_, Hp (plM w2 (fun k => k = b)) [(0, b, [.slice a bs.length c, I 0], 135)], rfl, good_hp (ok_plM gt_low hg2 (fun m e => e ▸ hbl)), hp_one' (hO1.grow hg) rfl, ?_⟩
  have hGF : BOk Gt (plM w2 (fun k => k = b)) := ok_plM gt_low hg2 (fun m e => e ▸ hbl)
  clear hC
  refine lx_move rfl rfl rfl ?_
  refine lx_ext rfl rfl rfl rfl ?_
  refine lx_ext rfl rfl rfl rfl ?_
  refine lx_assign rfl rfl rfl ?_
  refine lx_assign rfl rfl rfl ?_
  refine lx_nil ?_
  refine x_seq ?_
  refine xs_plain (E := EE [89, 90, 94]) ?_
  refine lx_move rfl rfl rfl ?_
  refine lx_un rfl (fun _ => un_not _) rfl rfl ?_
  refine lx_nil ?_
  refine x_false rfl ?_
  refine x_skip ?_
  refine xs_plain (E := EE [89, 90, 94]) ?_
  refine lx_move rfl rfl rfl ?_
  refine lx_move rfl rfl rfl ?_
  refine lx_callE rfl rfl ent90 rfl rfl (fun w1 hC => (pas_c b a c bs.length 0 a (szB z.toNat) (szB z.toNat) w1 (hGF.g _ _ _ hC) hbl (hC.own 0 _ _ _ rfl).1 hm hc).mono fun e1 w2 h => ?_)
  obtain ⟨rfl, hm, hO⟩ := h
  refine ⟨_, _, rfl, good_hp hGF, hC.mod hGF.r (n := 0) rfl (mod_mm hm) hO, ?_⟩
  clear hC hm hO
  refine lx_nil ?_
  refine xs_plain (E := EE [89, 90, 94]) ?_
  refine lx_move rfl rfl rfl ?_
  refine lx_assign rfl rfl rfl ?_
  refine lx_nil ?_
  refine x_ret ?_
  repeat (first | refine kseq_ret ?_ | refine kblk_ret ?_)
  exact kret_tmp rfl rfl (fun w' hw' => ⟨u, rfl, (hq1.trans (grow_mm hg)).trans (hq_mm hw'), (hw'.own 0 _ _ _ rfl).1, hu.up hq1.size hb1 (hq_mm hw')⟩)
theorem rt_calls (S : Nat → Prop) (b : Nat) (bs : List (BitVec 8)) (e : Int) (z : Int) (hz : z.toNat < 9223372036854775808) (hl : bs.length ≤ 100000) (w : World) (hw : Gt w) (hbl : 0 ≤ b) (hr : RdAt 135 S w b bs e) : Calls Try.prog 86 [.pointer (some ⟨b, 0, none⟩), I z].toArray w (fun r w' => ∃ v, r = .returned v ∧ MM (fun k => k = b) w w' ∧ FrB w w' v (gotB bs e z.toNat) ∧ RdAt 135 S w' b (lftB bs e z.toNat) (errB bs e z.toNat)) := by
  obtain ⟨a, c, ho, hc, hy, hs⟩ := hr
  have hs2 : ∀ ad, a = some ad → ¬ ad.block = b := fun ad e => (hs ad e).2
  by_cases he : e = 0
  · subst he
    rcases Nat.lt_or_ge bs.length (szB z.toNat) with h | h
    · have h' : ¬ (szB z.toNat) ≤ bs.length := by omega
      have e1 : gotB bs 0 z.toNat = [] := by simp [gotB, h']
      have e2 : lftB bs 0 z.toNat = bs := by simp [lftB, h']
      have e3 : errB bs 0 z.toNat = 170 := by simp [errB, h]
      rw [e1, e2, e3]
      exact (rt_l b a c bs.length z w hw hbl ho hz h).mono fun r w' ⟨h1, h2, h3⟩ => ⟨_, h1, h2, frB_nil _ _, a, c, h3, hc, h2.bytes hy hs2, hs⟩
    · have h' : ¬ bs.length < (szB z.toNat) := by omega
      cases hcl : cleanB (bs.take (szB z.toNat)) z.toNat with
      | false =>
        have e1 : gotB bs 0 z.toNat = [] := by simp [gotB, hcl]
        have e2 : lftB bs 0 z.toNat = bs := by simp [lftB, hcl]
        have e3 : errB bs 0 z.toNat = 171 := by simp [errB, h', hcl]
        rw [e1, e2, e3]
        exact (rt_d b a c bs z w hw hbl ho hz h hc hl hy hs2 hcl).mono fun r w' ⟨h1, h2, h3⟩ => ⟨_, h1, h2, frB_nil _ _, a, c, h3, hc, h2.bytes hy hs2, hs⟩
      | true =>
        have e1 : gotB bs 0 z.toNat = bt (bs.take (szB z.toNat)) z.toNat := by simp [gotB, hcl, h]
        have e2 : lftB bs 0 z.toNat = bs.drop (szB z.toNat) := by simp [lftB, hcl, h]
        have e3 : errB bs 0 z.toNat = 0 := by simp [errB, h', hcl]
        rw [e1, e2, e3]
        exact (rt_k b a c bs z w hw hbl ho hz h hc hl hy hs2 hcl).mono fun r w' ⟨v, h1, h2, h3, h4⟩ => ⟨v, h1, h2, h4, rd_pass hc h hy hs h2 h3⟩
  · have e1 : gotB bs e z.toNat = [] := by simp [gotB, he]
    have e2 : lftB bs e z.toNat = bs := by simp [lftB, he]
    have e3 : errB bs e z.toNat = e := by simp [errB, he]
    rw [e1, e2, e3]
    exact (rt_e b a c bs.length e z w hw hbl ho hz he).mono fun r w' ⟨h1, h2, h3⟩ => ⟨_, h1, h2, frB_nil _ _, a, c, h3, hc, h2.bytes hy hs2, hs⟩
def endE (bs : List (BitVec 8)) (e : Int) : Int := if e = 0 ∧ 0 < bs.length then 170 else e
theorem en_e (b : Nat) (a : Option Addr) (c n : Nat) (e : Int) (w : World) (hw : Gt w) (ho : OwnB w b [.slice a n c, I e] 135) (he : e ≠ 0) : Calls Try.prog 63 [.pointer (some ⟨b, 0, none⟩)].toArray w (fun r w' => r = .returned (I e) ∧ Grow w w') := by
  have hGF : BOk Gt (pl w) := gt_low.plain hw
  refine calls_of_X (G := Gt) Try.func63 rfl rfl (Hp (pl w) []) (hp_refl (pl w) trivial rides_true) (good_hp hGF) ?_
  refine xs_plain (E := EE []) ?_
  refine lx_assign rfl rfl rfl ?_
  refine lx_nil ?_
  refine x_seq ?_
  refine xs_plain (E := EE []) ?_
  refine lx_move rfl rfl rfl ?_
  refine lx_nilc rfl rfl rfl ?_
  refine lx_fak 1 rfl Try.underlying135 rfl Try.sizeOf51 (by decide) rfl rfl rfl ?_
  refine lx_load rfl Try.isAgg51 (fun w' h => ((ho.grow (hp_below h)).cell 1).trans rfl) rfl rfl ?_
  refine lx_binB false rfl rfl (fun _ => rfl) (fun _ => bin_eql_i _ _ _) (by simpa using he) rfl rfl ?_
  refine lx_move rfl rfl rfl ?_
  refine lx_skip rfl rfl rfl ?_
  refine lx_skip rfl rfl rfl ?_
  refine lx_skip rfl rfl rfl ?_
  refine lx_skip rfl rfl rfl ?_
  refine lx_skip rfl rfl rfl ?_
  refine lx_skip rfl rfl rfl ?_
  refine lx_pick rfl rfl rfl rfl rfl ?_
  refine lx_nil ?_
  refine x_false rfl ?_
  refine x_skip ?_
  refine xs_plain (E := EE []) ?_
  refine lx_move rfl rfl rfl ?_
  refine lx_nilc rfl rfl rfl ?_
  refine lx_fak 1 rfl Try.underlying135 rfl Try.sizeOf51 (by decide) rfl rfl rfl ?_
  refine lx_load rfl Try.isAgg51 (fun w' h => ((ho.grow (hp_below h)).cell 1).trans rfl) rfl rfl ?_
  refine lx_assign rfl rfl rfl ?_
  refine lx_nil ?_
  refine x_ret ?_
  repeat (first | refine kseq_ret ?_ | refine kblk_ret ?_)
  exact kret_tmp rfl rfl (fun w' hw' => ⟨rfl, hp_below hw'⟩)
theorem en_l (b : Nat) (a : Option Addr) (c n : Nat) (w : World) (hw : Gt w) (ho : OwnB w b [.slice a n c, I 0] 135) (hn : 0 < n) : Calls Try.prog 63 [.pointer (some ⟨b, 0, none⟩)].toArray w (fun r w' => r = .returned (I 170) ∧ Grow w w') := by
  have hGF : BOk Gt (pl w) := gt_low.plain hw
  refine calls_of_X (G := Gt) Try.func63 rfl rfl (Hp (pl w) []) (hp_refl (pl w) trivial rides_true) (good_hp hGF) ?_
  refine xs_plain (E := EE []) ?_
  refine lx_assign rfl rfl rfl ?_
  refine lx_nil ?_
  refine x_seq ?_
  refine xs_plain (E := EE []) ?_
  refine lx_move rfl rfl rfl ?_
  refine lx_nilc rfl rfl rfl ?_
  refine lx_fak 1 rfl Try.underlying135 rfl Try.sizeOf51 (by decide) rfl rfl rfl ?_
  refine lx_load rfl Try.isAgg51 (fun w' h => ((ho.grow (hp_below h)).cell 1).trans rfl) rfl rfl ?_
  refine lx_binB true rfl rfl (fun _ => rfl) (fun _ => bin_eql_i _ _ _) (by simp) rfl rfl ?_
  refine lx_move rfl rfl rfl ?_
  refine lx_move rfl rfl rfl ?_
  refine lx_nilc rfl rfl rfl ?_
  refine lx_fak 0 rfl Try.underlying135 rfl Try.sizeOf46 (by decide) rfl rfl rfl ?_
  refine lx_load rfl Try.isAgg46 (fun w' h => ((ho.grow (hp_below h)).cell 0).trans rfl) rfl rfl ?_
  refine lx_len rfl (fun _ => len_slice Try.underlying46 _ _ _ _) rfl rfl ?_
  refine lx_binB true rfl rfl (fun _ => rfl) (fun _ => bin_gtr_i _ _ _) (by simp; omega) rfl rfl ?_
  refine lx_pick rfl rfl rfl rfl rfl ?_
  refine lx_nil ?_
  refine x_true rfl ?_
  refine xs_plain (E := EE []) ?_
  refine lx_assign rfl rfl rfl ?_
  refine lx_nil ?_
  refine x_ret ?_
  repeat (first | refine kseq_ret ?_ | refine kblk_ret ?_)
  exact kret_tmp rfl rfl (fun w' hw' => ⟨rfl, hp_below hw'⟩)
theorem en_k (b : Nat) (a : Option Addr) (c n : Nat) (w : World) (hw : Gt w) (ho : OwnB w b [.slice a n c, I 0] 135) (hn : ¬ 0 < n) : Calls Try.prog 63 [.pointer (some ⟨b, 0, none⟩)].toArray w (fun r w' => r = .returned (I 0) ∧ Grow w w') := by
  have hGF : BOk Gt (pl w) := gt_low.plain hw
  refine calls_of_X (G := Gt) Try.func63 rfl rfl (Hp (pl w) []) (hp_refl (pl w) trivial rides_true) (good_hp hGF) ?_
  refine xs_plain (E := EE []) ?_
  refine lx_assign rfl rfl rfl ?_
  refine lx_nil ?_
  refine x_seq ?_
  refine xs_plain (E := EE []) ?_
  refine lx_move rfl rfl rfl ?_
  refine lx_nilc rfl rfl rfl ?_
  refine lx_fak 1 rfl Try.underlying135 rfl Try.sizeOf51 (by decide) rfl rfl rfl ?_
  refine lx_load rfl Try.isAgg51 (fun w' h => ((ho.grow (hp_below h)).cell 1).trans rfl) rfl rfl ?_
  refine lx_binB true rfl rfl (fun _ => rfl) (fun _ => bin_eql_i _ _ _) (by simp) rfl rfl ?_
  refine lx_move rfl rfl rfl ?_
  refine lx_move rfl rfl rfl ?_
  refine lx_nilc rfl rfl rfl ?_
  refine lx_fak 0 rfl Try.underlying135 rfl Try.sizeOf46 (by decide) rfl rfl rfl ?_
  refine lx_load rfl Try.isAgg46 (fun w' h => ((ho.grow (hp_below h)).cell 0).trans rfl) rfl rfl ?_
  refine lx_len rfl (fun _ => len_slice Try.underlying46 _ _ _ _) rfl rfl ?_
  refine lx_binB false rfl rfl (fun _ => rfl) (fun _ => bin_gtr_i _ _ _) (by simp; omega) rfl rfl ?_
  refine lx_pick rfl rfl rfl rfl rfl ?_
  refine lx_nil ?_
  refine x_false rfl ?_
  refine x_skip ?_
  refine xs_plain (E := EE []) ?_
  refine lx_move rfl rfl rfl ?_
  refine lx_nilc rfl rfl rfl ?_
  refine lx_fak 1 rfl Try.underlying135 rfl Try.sizeOf51 (by decide) rfl rfl rfl ?_
  refine lx_load rfl Try.isAgg51 (fun w' h => ((ho.grow (hp_below h)).cell 1).trans rfl) rfl rfl ?_
  refine lx_assign rfl rfl rfl ?_
  refine lx_nil ?_
  refine x_ret ?_
  repeat (first | refine kseq_ret ?_ | refine kblk_ret ?_)
  exact kret_tmp rfl rfl (fun w' hw' => ⟨rfl, hp_below hw'⟩)
theorem en_calls {S : Nat → Prop} {b : Nat} {bs : List (BitVec 8)} {e : Int} (w : World) (hw : Gt w) (hr : RdAt 135 S w b bs e) : Calls Try.prog 63 [.pointer (some ⟨b, 0, none⟩)].toArray w (fun r w' => r = .returned (I (endE bs e)) ∧ Grow w w') := by
  obtain ⟨a, c, ho, _⟩ := hr
  by_cases he : e = 0
  · subst he
    by_cases hn : 0 < bs.length
    · rw [show endE bs 0 = 170 from if_pos ⟨rfl, hn⟩]
      exact en_l b a c bs.length w hw ho hn
    · rw [show endE bs 0 = 0 from if_neg (fun h => hn h.2)]
      exact en_k b a c bs.length w hw ho hn
  · rw [show endE bs e = e from by simp [endE, he]]
    exact en_e b a c bs.length e w hw ho he
theorem bldR (a : Option Addr) (n c : Nat) (w : World) : (Instr.build 135 #[(0, .slice a n c)]).run Try.prog w = .ok (.agg [.slice a n c, I 0].toArray) w := by
  simp [Instr.build, Try.zeroValue135, run_underlying Try.underlying135, Try.sizeOf46, Try.sizeOf51, Value.cells, Instr.fill]
theorem nr_calls (bs : List (BitVec 8)) (a : Option Addr) (cap : Nat) (hl : bs.length ≤ 1000000) (w : World) (hw : Gt w) (hb : BytesAt w a bs) : Calls Try.prog 62 [.slice a bs.length cap].toArray w (fun e w' => ∃ b, e = .returned (.pointer (some ⟨b, 0, none⟩)) ∧ Grow w w' ∧ w.heap.size ≤ b ∧ RdAt 135 (fun k => w.heap.size ≤ k ∧ k < w'.heap.size) w' b bs 0) := by
  have hGF : BOk Gt (pl w) := gt_low.plain hw
  refine calls_of_X (G := Gt) Try.func62 rfl rfl (Hp (pl w) []) (hp_refl (pl w) trivial rides_true) (good_hp hGF) ?_
  refine xs_plain (E := EE [76]) ?_
  refine lx_assign rfl rfl rfl ?_
  refine lx_nil ?_
  refine xs_plain (E := EE [76]) ?_
  refine lx_move rfl rfl rfl ?_
  refine lx_callE rfl rfl ent76 rfl rfl (fun w1 hC => (cln_calls bs a cap hl w1 (hGF.g _ _ _ hC) (hb.grow (hp_below hC))).mono fun e1 w2 h => ?_)
  obtain ⟨_, rfl, hg, a2, c2, rfl, hsl, hnew⟩ := h
  have hg2 : Gt w2 := gt_low.grow (hGF.g _ _ _ hC) hg
  have hgw := (hp_below hC).trans hg
  have hsz := (hp_below hC).size
  refine ⟨_, Hp (pl w2) [], rfl, good_hp (gt_low.plain hg2), hp_refl (pl w2) trivial rides_true, ?_⟩
  have hGF : BOk Gt (pl w2) := gt_low.plain hg2
  refine lx_build (ps := [(0, .tmp 4)]) (vs := [.slice a2 bs.length c2]) rfl (fun w => bldR a2 bs.length c2 w) rfl rfl ?_
  refine lx_boxr 6 hGF rfl rfl rfl ?_
  intro b6
  refine lx_assign rfl rfl rfl ?_
  refine lx_nil ?_
  refine x_ret ?_
  repeat (first | refine kseq_ret ?_ | refine kblk_ret ?_)
  exact kret_tmp rfl rfl (fun w' hw' => ⟨b6, rfl, hgw.trans (hp_below hw'), Nat.le_trans hgw.size ((hw'.own 6 _ _ _ rfl).2.elim id False.elim), a2, c2, (hw'.own 6 _ _ _ rfl).1, by simpa using hsl.le, (hsl.grow (hp_below hw')).bytes, fun ad e => ⟨⟨Nat.le_trans hsz (hnew ad e), Nat.lt_of_lt_of_le (hsl.lt ad e) (hp_below hw').size⟩, fun h => by have h1 := hsl.lt ad e; have h2 : w2.heap.size ≤ b6 := (hw'.own 6 _ _ _ rfl).2.elim id False.elim; omega⟩⟩)
end Go.Proofs.Ytlaanjcnfindnaa
