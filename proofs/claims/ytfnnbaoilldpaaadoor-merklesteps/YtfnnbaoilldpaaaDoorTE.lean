/-
  What is asked of the program's trees; the small tree.
-/
import Derived.Test.YtfnnbaoilldpaaaDoorTD
import Derived.Test.YtfnnbaoilldpaaaDoorXQ
import Derived.Test.YtfnnbaoilldpaaaDoorX3
namespace Go.Proofs.YtfnnbaoilldpaaaDoor
open Go.RowKit
set_option maxRecDepth 100000
set_option maxHeartbeats 1000000
open Sh
theorem ent13 : Enters Tryd.prog 13 := fun _ _ => by kernel_rfl
theorem ent15 : Enters Tryd.prog 15 := fun _ _ => by kernel_rfl
theorem ent22 : Enters Tryd.prog 22 := fun _ _ => by kernel_rfl
theorem ent18 : Enters Tryd.prog 18 := fun _ _ => by kernel_rfl
theorem ent10 : Enters Tryd.prog 10 := fun _ _ => by kernel_rfl
/-- What is asked of package merkle. -/
structure MerkleP : Prop where
  zero : ∀ (d : Int) (w : World), Gt w → Calls Tryd.prog 15 [I d].toArray w (fun e w' => e = .returned (.agg ((zrT P2 Z0 (min d.toNat 64)).map U8).toArray) ∧ Grow w w')
  rootN : ∀ (n : Int) (a : Option Addr) (len cap : Nat) (w : World), Gt w → n.toNat < len → len ≤ 65536 → Calls Tryd.prog 13 [.slice a len cap, I n].toArray w (fun e w' => e = .returned (.tuple #[.agg ((Z0).map U8).toArray, I 180]) ∧ Grow w w')
  rootY : ∀ (n : Int), n < 9223372036854775808 → ∀ (l : List Rt), AllR l → ∀ (len : Nat), l.length = len → len ≤ 65536 → ∀ (a : Option Addr) (cap : Nat), len ≤ cap → ¬ n.toNat < len → ∀ (w : World), Gt w → RtsAt w a l → Calls Tryd.prog 13 [.slice a len cap, I n].toArray w (fun e w' => e = .returned (.tuple #[.agg ((tre P2 Z0 (dep n.toNat) l).map U8).toArray, I 0]) ∧ Grow w w')
  ver : ∀ (v0 : Rt), v0.length = 32 → ∀ (b : List Rt), AllR b → ∀ (len : Nat), b.length = len → len ≤ 65536 → ∀ (a : Option Addr) (cap : Nat), len ≤ cap → ∀ (x0 : BitVec 64) (root : Rt), root.length = 32 → ∀ (w : World), Gt w → RtsAt w a b → Calls Tryd.prog 22 [.agg (v0.map U8).toArray, .slice a len cap, U64 x0, .agg (root.map U8).toArray].toArray w (fun e w' => e = .returned (.bool (vfy v0 b x0 root)) ∧ Grow w w')
  bra : ∀ (D : Nat), D ≤ 31 → ∀ (l : List Rt), AllR l → ∀ (len : Nat), l.length = len → len ≤ 65536 → ∀ (a : Option Addr) (cap : Nat), len ≤ cap → ∀ (x0 : BitVec 64) (w : World), Gt w → RtsAt w a l → Calls Tryd.prog 18 [.slice a len cap, I (D : Int), U64 x0].toArray w (fun e w' => ∃ v, e = .returned v ∧ Grow w w' ∧ FrL w w' v (brF P2 Z0 D (l.take (2 ^ D)) x0.toNat))
theorem RW_flat (l : List Rt) (hl : AllR l) : RW 32 (fun i => l.getD i []) l.length = l.flatten := by
  apply List.ext_getElem?
  intro m
  have hf := flat_len l hl
  rcases Nat.lt_or_ge m (32 * l.length) with h | h
  · rw [RW_get _ _ _ h]
    have hi : m / 32 < l.length := by omega
    have hr : l[m / 32]? = some l[m / 32] := List.getElem?_eq_getElem hi
    have hr32 := hl _ (List.getElem_mem hi)
    have hj : m % 32 < l[m / 32].length := by omega
    have := flat_get l hl (m / 32) _ hr (m % 32) _ (List.getElem?_eq_getElem hj)
    rw [show m / 32 * 32 + m % 32 = m from by omega] at this
    have e : l.getD (m / 32) [] = l[m / 32] := by rw [List.getD_eq_getElem?_getD, hr]; rfl
    rw [this, e, List.getD_eq_getElem?_getD, List.getElem?_eq_getElem hj]
    rfl
  · rw [List.getElem?_eq_none (by rw [RW_len]; exact h), List.getElem?_eq_none (by rw [hf]; exact h)]
def A1 : Rt := 1#8 :: List.replicate 31 0#8
def A2 : Rt := 2#8 :: List.replicate 31 0#8
theorem A1_len : A1.length = 32 := rfl
theorem A2_len : A2.length = 32 := rfl
theorem A12 : AllR [A1, A2] := all_cons A1_len (all_cons A2_len (fun _ h => by simp at h))
theorem bldA (x : BitVec 8) (w : World) : (Instr.build 29 #[(0, U8 x)]).run Tryd.prog w = .ok (.agg ((x :: List.replicate 31 0#8).map U8).toArray) w := by
  simp [Instr.build, Tryd.zeroValue29, run_underlying Tryd.underlying29, Tryd.sizeOf5, Value.cells, Instr.fill, U8]
def kH (b : List (BitVec 8)) : List (BitVec 8) := DG ((mixN (KW.map tN) (IV.map tN) ((blks b).map (·.map BitVec.toNat))).map (BitVec.ofNat 32)) 8
theorem kn_e (x y : Rt) : P2 x y = kH (x ++ y) := SHA_e _ _ rfl
theorem kn_ne : ¬ P2 A1 A1 = P2 A1 A2 := by
  rw [kn_e, kn_e]
  decide +kernel
theorem kn_f5 : (P2 Z0 Z0).getD 0 0#8 = 245#8 := by
  rw [kn_e]
  decide +kernel
theorem k_two {α : Type} (p : α → α → α) (z a b : α) : tre p z 1 [a, b] = p a b := rfl
theorem k_bra {α : Type} (p : α → α → α) (z a b : α) : brF p z 1 ([a, b].take (2 ^ 1)) (1#64).toNat = [a] := rfl
theorem k_fld {α : Type} (p : α → α → α) (v x : α) : fld p (1#64).toNat 0 v [x] = p x v := rfl
theorem k_v1 : vfy A2 [A1] 1#64 (P2 A1 A2) = true := by unfold vfy; rw [k_fld, decide_eq_true rfl]; rfl
theorem k_v2 : vfy A1 [A1] 1#64 (P2 A1 A2) = false := by unfold vfy; rw [k_fld, decide_eq_false kn_ne]; rfl
theorem k_v3 : vfy A2 [A1] 3#64 (P2 A1 A2) = false := by unfold vfy; rw [show (decide (64 ≤ [A1].length) || 3#64 >>> [A1].length == 0#64) = false from by decide, Bool.and_false]
theorem own_rts {B : Bs} {L : Hl} {Y : Nat → Prop} {n b : Nat} {l : List Rt} {t : TypeId} (hl : AllR l) (h : lkB L n = some (b, l.flatten.map U8, t)) : ∀ w, Hq B L Y w → RtsAt w (some ⟨b, 0, none⟩) l := fun w hw => rts_own hl (hp_row (n := n) h w hw) (List.take_of_length_le (by rw [List.length_map, flat_len l hl]; exact Nat.le_refl _))
theorem known18 (hM : MerkleP) (w : World) (hw : Gt w) : Calls Tryd.prog 10 [].toArray w (fun e w' => e = .returned (.bool true) ∧ Grow w w') := by
  have hGF : BOk Gt (pl w) := gt_low.plain hw
  refine calls_of_X (G := Gt) Tryd.func10 rfl rfl (Hp (pl w) []) (hp_refl (pl w) trivial rides_true) (good_hp hGF) ?_
  refine xs_plain (E := EE [18]) ?_
  refine lx_assign rfl rfl rfl ?_
  refine lx_nil ?_
  refine xs_plain (E := EE [18]) ?_
  refine lx_build (ps := [(0, .const (U8 1#8))]) (vs := [U8 1#8]) rfl (fun w => bldA 1#8 w) rfl rfl ?_
  refine lx_build (ps := [(0, .const (U8 2#8))]) (vs := [U8 2#8]) rfl (fun w => bldA 2#8 w) rfl rfl ?_
  refine lx_allocr 1 hGF zv29 rfl rfl ?_
  intro b1
  refine lx_allocr 2 hGF zv29 rfl rfl ?_
  intro b2
  refine lx_storea 1 hGF rfl rfl rfl Tryd.sizeOf29 (by rw [List.length_map]; exact A1_len) (by rw [List.length_map]; exact Z0_len) (one_u8 _) rfl ?_
  refine lx_storea 2 hGF rfl rfl rfl Tryd.sizeOf29 (by rw [List.length_map]; exact A2_len) (by rw [List.length_map]; exact Z0_len) (one_u8 _) rfl ?_
  refine lx_nil ?_
  refine xs_plain (E := EE [18]) ?_
  refine lx_loada 1 rfl rfl Tryd.isAgg29 Tryd.sizeOf29 (by rw [List.length_map]; exact A1_len) rfl rfl ?_
  refine lx_loada 2 rfl rfl Tryd.isAgg29 Tryd.sizeOf29 (by rw [List.length_map]; exact A2_len) rfl rfl ?_
  refine lx_bslWG (uf := U8) (s := 32) 15 (fun i => [A1, A2].getD i []) (List.replicate 32 0#8) hGF rfl rfl rfl (fun i hi => by rcases Nat.lt_or_ge i 1 with h | h; (obtain rfl : i = 0 := (by omega)); exact A1_len; (obtain rfl : i = 1 := (by omega)); exact A2_len) (by decide) (by decide) Tryd.underlying22 Tryd.sizeOf29 rfl zv29 rfl rfl ?_
  intro b15
  rw [show RW 32 (fun i => [A1, A2].getD i []) 2 = [A1, A2].flatten from RW_flat [A1, A2] A12]
  refine lx_callC rfl rfl ent13 (fun w' hw' hG => hM.rootY 2 (by decide) [A1, A2] A12 2 rfl (by decide) _ 2 (by decide) (by decide) w' hG (own_rts (n := 15) A12 rfl w' hw')) rfl rfl ?_
  rw [show dep (2 : Int).toNat = 1 from by decide, k_two]
  refine lx_move rfl rfl rfl ?_
  refine lx_ext rfl rfl rfl rfl ?_
  refine lx_ext rfl rfl rfl rfl ?_
  refine lx_allocr 3 hGF zv29 rfl rfl ?_
  intro b3
  refine lx_storea 3 hGF rfl rfl rfl Tryd.sizeOf29 (by rw [List.length_map]; exact P2_len _ _) (by rw [List.length_map]; exact Z0_len) (one_u8 _) rfl ?_
  refine lx_assign rfl rfl rfl ?_
  refine lx_nil ?_
  refine xs_plain (E := EE [18]) ?_
  refine lx_loada 1 rfl rfl Tryd.isAgg29 Tryd.sizeOf29 (by rw [List.length_map]; exact A1_len) rfl rfl ?_
  refine lx_loada 2 rfl rfl Tryd.isAgg29 Tryd.sizeOf29 (by rw [List.length_map]; exact A2_len) rfl rfl ?_
  refine lx_bslWG (uf := U8) (s := 32) 22 (fun i => [A1, A2].getD i []) (List.replicate 32 0#8) hGF rfl rfl rfl (fun i hi => by rcases Nat.lt_or_ge i 1 with h | h; (obtain rfl : i = 0 := (by omega)); exact A1_len; (obtain rfl : i = 1 := (by omega)); exact A2_len) (by decide) (by decide) Tryd.underlying22 Tryd.sizeOf29 rfl zv29 rfl rfl ?_
  intro b22
  rw [show RW 32 (fun i => [A1, A2].getD i []) 2 = [A1, A2].flatten from RW_flat [A1, A2] A12]
  refine lx_callC rfl rfl ent13 (fun w' hw' hG => hM.rootN 1 _ 2 2 w' hG (by decide) (by decide)) rfl rfl ?_
  refine lx_move rfl rfl rfl ?_
  refine lx_ext rfl rfl rfl rfl ?_
  refine lx_ext rfl rfl rfl rfl ?_
  refine lx_allocr 5 hGF zv29 rfl rfl ?_
  intro b5
  refine lx_storea 5 hGF rfl rfl rfl Tryd.sizeOf29 (by rw [List.length_map]; exact Z0_len) (by rw [List.length_map]; exact Z0_len) (one_u8 _) rfl ?_
  refine lx_assign rfl rfl rfl ?_
  refine lx_nil ?_
  refine xs_plain (E := EE [18]) ?_
  refine lx_loada 1 rfl rfl Tryd.isAgg29 Tryd.sizeOf29 (by rw [List.length_map]; exact A1_len) rfl rfl ?_
  refine lx_loada 2 rfl rfl Tryd.isAgg29 Tryd.sizeOf29 (by rw [List.length_map]; exact A2_len) rfl rfl ?_
  refine lx_bslWG (uf := U8) (s := 32) 28 (fun i => [A1, A2].getD i []) (List.replicate 32 0#8) hGF rfl rfl rfl (fun i hi => by rcases Nat.lt_or_ge i 1 with h | h; (obtain rfl : i = 0 := (by omega)); exact A1_len; (obtain rfl : i = 1 := (by omega)); exact A2_len) (by decide) (by decide) Tryd.underlying22 Tryd.sizeOf29 rfl zv29 rfl rfl ?_
  intro b28
  rw [show RW 32 (fun i => [A1, A2].getD i []) 2 = [A1, A2].flatten from RW_flat [A1, A2] A12]
  refine lx_callE rfl rfl ent18 rfl rfl (fun w' hw' => (hM.bra 1 (by decide) [A1, A2] A12 2 rfl (by decide) _ 2 (by decide) 1#64 w' (hGF.g _ _ _ hw') (own_rts (n := 28) A12 rfl w' hw')).mono fun e1 w2 h => ?_)
  obtain ⟨_, rfl, hg, a9, c9, rfl, hs9, hn9⟩ := h
  rw [k_bra] at hs9 ⊢
  obtain ⟨b9, cs9, rfl, ho9, hl9, _, _, ht9⟩ : ∃ b c, a9 = some ⟨b, 0, none⟩ ∧ OwnB w2 b c 29 ∧ c.length = c9 * 32 ∧ 1 ≤ c9 ∧ ([A1].flatten.map U8).length = 1 * 32 ∧ c.take ([A1].flatten.map U8).length = [A1].flatten.map U8 := hs9.elim (fun h => absurd h.2.2.1 (by decide)) id
  refine ⟨_, _, rfl, good_hp hGF, hw'.news rides_true hg [(29, b9, cs9, 29)] ?_ inj_one, ?_⟩
  · intro n' b' c' t' hl
    rcases lkB_cons hl with ⟨_, e⟩ | ⟨_, hl⟩
    · cases e; exact ⟨hn9 _ rfl, ho9⟩
    · cases hl
  clear hw' hg hs9 hn9 ho9
  refine lx_assign rfl rfl rfl ?_
  refine lx_nil ?_
  refine xs_plain (E := EE [18]) ?_
  refine lx_callC rfl rfl ent13 (fun w' hw' hG => hM.rootY 0 (by decide) [] (fun _ h => by simp at h) 0 rfl (by decide) none 0 (by decide) (by decide) w' hG (fun i r h => by simp at h)) rfl rfl ?_
  rw [show dep (0 : Int).toNat = 0 from by decide, show tre P2 Z0 0 [] = Z0 from tre_nil P2 Z0 0]
  refine lx_move rfl rfl rfl ?_
  refine lx_ext rfl rfl rfl rfl ?_
  refine lx_ext rfl rfl rfl rfl ?_
  refine lx_allocr 8 hGF zv29 rfl rfl ?_
  intro b8
  refine lx_storea 8 hGF rfl rfl rfl Tryd.sizeOf29 (by rw [List.length_map]; exact Z0_len) (by rw [List.length_map]; exact Z0_len) (one_u8 _) rfl ?_
  refine lx_assign rfl rfl rfl ?_
  refine lx_nil ?_
  refine xs_drawn (E := EE [18]) mixed (by kernel_rfl) (by kernel_rfl) (by kernel_rfl) ?_
  refine lx_move rfl rfl rfl ?_
  refine lx_move rfl rfl rfl ?_
  refine lx_bin rfl rfl (fun _ => rfl) (fun _ => bin_add_i _ _ _ (by unfold inI; omega)) rfl rfl ?_
  refine lx_binB true rfl rfl (fun _ => rfl) (fun _ => bin_eql_i _ _ _) (by decide) rfl rfl ?_
  refine lx_move rfl rfl rfl ?_
  refine lx_move rfl rfl rfl ?_
  refine lx_binB true rfl rfl (fun _ => rfl) (fun _ => bin_eql_i _ _ _) (by decide) rfl rfl ?_
  refine lx_pick rfl rfl rfl rfl rfl ?_
  refine lx_move rfl rfl rfl ?_
  refine lx_move rfl rfl rfl ?_
  refine lx_len rfl (fun _ => len_slice Tryd.underlying22 _ _ _ _) rfl rfl ?_
  refine lx_binB true rfl rfl (fun _ => rfl) (fun _ => bin_eql_i _ _ _) (by decide) rfl rfl ?_
  refine lx_pick rfl rfl rfl rfl rfl ?_
  refine lx_move rfl rfl rfl ?_
  refine lx_move rfl rfl rfl ?_
  refine lx_isW (s := 32) 0 rfl rfl Tryd.underlying22 Tryd.sizeOf29 rfl (by decide) rfl rfl ?_
  refine lx_loadr (cs := A1.map U8) rfl Tryd.isAgg29 Tryd.sizeOf29 (by rw [List.length_map]; exact A1_len) (fun w' hw' j v hv => (hp_row (n := 29) rfl w' hw') j v (by have hj := (List.getElem?_eq_some_iff.1 hv).1; have h2 : cs9.take ([A1].flatten.map U8).length = A1.map U8 := ht9.trans (by simp); rw [← hv, ← h2, List.getElem?_take, if_pos (by simpa using hj)])) rfl rfl ?_
  refine lx_loada 1 rfl rfl Tryd.isAgg29 Tryd.sizeOf29 (by rw [List.length_map]; exact A1_len) rfl rfl ?_
  refine lx_binB true rfl rfl (fun w' => eqg29 _ _ _ _ _ w') (fun w' => eqv29 _ _ A1_len A1_len w') (decide_eq_true rfl) rfl rfl ?_
  refine lx_pick rfl rfl rfl rfl rfl ?_
  refine lx_move rfl rfl rfl ?_
  refine lx_loada 2 rfl rfl Tryd.isAgg29 Tryd.sizeOf29 (by rw [List.length_map]; exact A2_len) rfl rfl ?_
  refine lx_move rfl rfl rfl ?_
  refine lx_loada 3 rfl rfl Tryd.isAgg29 Tryd.sizeOf29 (by rw [List.length_map]; exact P2_len _ _) rfl rfl ?_
  refine lx_callC rfl rfl ent22 (fun w' hw' hG => hM.ver A2 A2_len [A1] (all_cons A1_len (fun _ h => by simp at h)) 1 rfl (by decide) _ c9 (by omega) 1#64 (P2 A1 A2) (P2_len _ _) w' hG (rts_own (l := [A1]) (all_cons A1_len (fun _ h => by simp at h)) (hp_row (n := 29) rfl w' hw') (by rw [← ht9]; rfl))) rfl rfl ?_
  rw [k_v1]
  refine lx_pick rfl rfl rfl rfl rfl ?_
  refine lx_move rfl rfl rfl ?_
  refine lx_loada 1 rfl rfl Tryd.isAgg29 Tryd.sizeOf29 (by rw [List.length_map]; exact A1_len) rfl rfl ?_
  refine lx_move rfl rfl rfl ?_
  refine lx_loada 3 rfl rfl Tryd.isAgg29 Tryd.sizeOf29 (by rw [List.length_map]; exact P2_len _ _) rfl rfl ?_
  refine lx_callC rfl rfl ent22 (fun w' hw' hG => hM.ver A1 A1_len [A1] (all_cons A1_len (fun _ h => by simp at h)) 1 rfl (by decide) _ c9 (by omega) 1#64 (P2 A1 A2) (P2_len _ _) w' hG (rts_own (l := [A1]) (all_cons A1_len (fun _ h => by simp at h)) (hp_row (n := 29) rfl w' hw') (by rw [← ht9]; rfl))) rfl rfl ?_
  rw [k_v2]
  refine lx_un rfl (fun _ => un_not _) rfl rfl ?_
  refine lx_pick rfl rfl rfl rfl rfl ?_
  refine lx_move rfl rfl rfl ?_
  refine lx_loada 2 rfl rfl Tryd.isAgg29 Tryd.sizeOf29 (by rw [List.length_map]; exact A2_len) rfl rfl ?_
  refine lx_move rfl rfl rfl ?_
  refine lx_loada 3 rfl rfl Tryd.isAgg29 Tryd.sizeOf29 (by rw [List.length_map]; exact P2_len _ _) rfl rfl ?_
  refine lx_callC rfl rfl ent22 (fun w' hw' hG => hM.ver A2 A2_len [A1] (all_cons A1_len (fun _ h => by simp at h)) 1 rfl (by decide) _ c9 (by omega) 3#64 (P2 A1 A2) (P2_len _ _) w' hG (rts_own (l := [A1]) (all_cons A1_len (fun _ h => by simp at h)) (hp_row (n := 29) rfl w' hw') (by rw [← ht9]; rfl))) rfl rfl ?_
  rw [k_v3]
  refine lx_un rfl (fun _ => un_not _) rfl rfl ?_
  refine lx_pick rfl rfl rfl rfl rfl ?_
  refine lx_move rfl rfl rfl ?_
  refine lx_loada 8 rfl rfl Tryd.isAgg29 Tryd.sizeOf29 (by rw [List.length_map]; exact Z0_len) rfl rfl ?_
  refine lx_build (ps := []) (vs := []) (v := .agg (Z0.map U8).toArray) rfl (fun w => bldZ w) rfl rfl ?_
  refine lx_binB true rfl rfl (fun w' => eqg29 _ _ _ _ _ w') (fun w' => eqv29 _ _ Z0_len Z0_len w') (decide_eq_true rfl) rfl rfl ?_
  refine lx_pick rfl rfl rfl rfl rfl ?_
  refine lx_move rfl rfl rfl ?_
  refine lx_callC rfl rfl ent15 (fun w' hw' hG => hM.zero 1 w' hG) rfl rfl ?_
  rw [show min (1 : Int).toNat 64 = 1 from rfl, show zrT P2 Z0 1 = P2 Z0 Z0 from rfl]
  refine lx_idxm U8 0#8 0 rfl rfl Tryd.underlying29 Tryd.sizeOf5 Tryd.isAgg5 (by omega) (by omega) (P2_len _ _) rfl rfl ?_
  refine lx_binB true rfl rfl (fun _ => rfl) (fun _ => bin_eql_u8 _ _ _) (by rw [kn_f5]; rfl) rfl rfl ?_
  refine lx_pick rfl rfl rfl rfl rfl ?_
  refine lx_assign rfl rfl rfl ?_
  refine lx_nil ?_
  refine x_ret ?_
  repeat (first | refine kseq_ret ?_ | refine kblk_ret ?_)
  exact kret_tmp rfl rfl (fun w' hw' => ⟨rfl, hp_below hw'⟩)
end Go.Proofs.YtfnnbaoilldpaaaDoor
