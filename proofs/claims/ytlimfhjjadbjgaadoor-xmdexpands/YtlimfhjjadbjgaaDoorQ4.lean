/-
  The document's texts made long.
  The walk of the document's Expand.
  The law XmdExpands.
-/
import Derived.Test.YtlimfhjjadbjgaaDoorQ3
import Derived.Test.YtlimfhjjadbjgaaDoorX3
import Derived.Test.YtlimfhjjadbjgaaDoorX2
namespace Go.Proofs.YtlimfhjjadbjgaaDoor
open Go.RowKit
set_option maxRecDepth 100000
set_option maxHeartbeats 1000000

theorem ent8 : Enters Tryd.prog 8 := fun _ _ => by kernel_rfl
namespace Xm
theorem zv55 (w : World) : (zeroValue 55).run Tryd.prog w = .ok (.agg ((List.replicate 32 (0#8)).map U8).toArray) w := Sh.zv55 w
theorem ti5 : TI Tryd.prog 5 (.int .u8 0) 1 1 := Sh.ti5
/-- A tag and its length. -/
def D (dst : List (BitVec 8)) : List (BitVec 8) := dst ++ [BitVec.ofInt 8 (dst.length : Int)]
theorem D_len (dst : List (BitVec 8)) : (D dst).length = dst.length + 1 := by simp [D]
/-- What is summed first. -/
def F (msg dst : List (BitVec 8)) (n : Nat) : List (BitVec 8) := ((List.replicate 64 0#8 ++ msg) ++ [BitVec.ofInt 8 ((n / 256 : Nat) : Int), BitVec.ofInt 8 (n : Int), 0#8]) ++ D dst
theorem F_len (msg dst : List (BitVec 8)) (n : Nat) : (F msg dst n).length = 64 + msg.length + 3 + (dst.length + 1) := by
  rw [F, List.length_append, List.length_append, List.length_append, List.length_replicate, D_len]; rfl
def B0 (msg dst : List (BitVec 8)) (n : Nat) : List (BitVec 8) := Sh.SHA (F msg dst n)
theorem B0_len (msg dst : List (BitVec 8)) (n : Nat) : (B0 msg dst n).length = 32 := Sh.SHA_len _
/-- Unlike bits, so far. -/
def R (b l : List (BitVec 8)) : Nat → List (BitVec 8)
  | 0 => b
  | j + 1 => (R b l j).set j (b.getD j 0 ^^^ l.getD j 0)
theorem R_len (b l : List (BitVec 8)) : ∀ j, (R b l j).length = b.length
  | 0 => rfl
  | j + 1 => by rw [R, List.length_set, R_len b l j]
/-- The sums, one by one. -/
def Xk (b d : List (BitVec 8)) : Nat → List (BitVec 8)
  | 0 => List.replicate 32 0#8
  | k + 1 => Sh.SHA (((if k = 0 then b else R b (Xk b d k) 32) ++ [BitVec.ofInt 8 ((k + 1 : Nat) : Int)]) ++ d)
theorem Xk_len (b d : List (BitVec 8)) : ∀ k, (Xk b d k).length = 32
  | 0 => List.length_replicate
  | _ + 1 => Sh.SHA_len _
/-- The sums behind one another. -/
def O (b d : List (BitVec 8)) : Nat → List (BitVec 8)
  | 0 => []
  | k + 1 => O b d k ++ Xk b d (k + 1)
theorem O_len (b d : List (BitVec 8)) : ∀ k, (O b d k).length = 32 * k
  | 0 => rfl
  | k + 1 => by rw [O, List.length_append, O_len b d k, Xk_len]; omega
/-- The text made long. -/
def E (msg dst : List (BitVec 8)) (n : Nat) : List (BitVec 8) := (O (B0 msg dst n) (D dst) ((n + 31) / 32)).take n
theorem E_len (msg dst : List (BitVec 8)) (n : Nat) : (E msg dst n).length = n := by rw [E, List.length_take, O_len]; omega
/-- Bytes of a block of our own. -/
structure Bk (xs : List (BitVec 8)) where
  (b : Nat) (c : List Value)
  h1 : xs.length ≤ c.length
  h2 : c.take xs.length = xs.map U8
theorem sum_calls (bm : Nat) (a : Option Addr) (len cap : Nat) (bs : List (BitVec 8)) (hb : bs.length = len) (hl : len ≤ 100000) (w : World) (hw : Gt w) (ho : OwnB w bm (Sh.MK.map U32) 64) (hby : BytesAt w a bs) : Calls Tryd.prog 19 [.pointer (some ⟨bm, 0, none⟩), .slice a len cap].toArray w (fun e w' => e = .returned (.agg ((Sh.SHA bs).map U8).toArray) ∧ Grow w w') := by
  subst hb
  rw [← Sh.msum_sha]
  exact Sh.msum_calls bm a cap bs (by omega) w hw ho hby
theorem own_grow {w w' : World} {b : Nat} {c : List Value} {t : TypeId} (h : OwnB w b c t) (hg : Grow w w') : OwnB w' b c t := h.of_same (hg.block b h.lt)
theorem hmc {i : TypeInfo} (k : Nat) (h : Tryd.prog.info? 5 = some i ∧ i.zero = some (.int .u8 0) ∧ i.size = 1 ∧ i.bytes = 1) (hk : (madeCells (Value.int .u8 0).cells (k * 1)).toList = (List.replicate k 0#8).map U8) : (madeCells (Value.int .u8 0).cells (k * i.size)).toList = (List.replicate k 0#8).map U8 := by
  rw [h.2.2.1]; exact hk
theorem hmk (k : Nat) (h : k ≤ 1000) : k * ti5.choose.size ≤ 16777216 ∧ ti5.choose.bytes * k ≤ 281474976710656 ∧ k ≤ 1000000 := by
  rw [ti5.choose_spec.2.2.1, ti5.choose_spec.2.2.2]; omega
theorem mc64 : (madeCells (Value.int .u8 0).cells (64 * 1)).toList = (List.replicate 64 0#8).map U8 := by kernel_rfl

end Xm
end Go.Proofs.YtlimfhjjadbjgaaDoor

namespace Go.Proofs.YtlimfhjjadbjgaaDoor
open Go.RowKit
set_option maxRecDepth 100000
set_option maxHeartbeats 1000000
namespace Xm
attribute [local simp] Sh.SHA_len B0_len F_len R_len Xk_len O_len Sh.MK_len D_len

theorem rex_0 (bm : Nat) (a1 : Option Addr) (cap1 : Nat) (msg : List (BitVec 8)) (a2 : Option Addr) (cap2 : Nat) (dst : List (BitVec 8)) (z : Int) (h : z < 0) (w : World) (hw : Gt w) : Calls Tryd.prog 8 [.pointer (some ⟨bm, 0, none⟩), .slice a1 msg.length cap1, .slice a2 dst.length cap2, I z].toArray w (fun e w' => e = .returned (.tuple #[.slice none 0 0, I 130]) ∧ Grow w w') := by
  have hGF : BOk Gt (pl w) := gt_low.plain hw
  refine calls_of_X (G := Gt) Tryd.func8 rfl rfl (Hp (pl w) []) (hp_refl (pl w) trivial rides_true) (good_hp hGF) ?_
  refine xs_plain (E := EE []) ?_
  refine lx_assign rfl rfl rfl ?_
  refine lx_assign rfl rfl rfl ?_
  refine lx_nil ?_
  refine x_seq ?_
  refine xs_plain (E := EE []) ?_
  refine lx_move rfl rfl rfl ?_
  refine lx_binB true rfl rfl (fun _ => rfl) (fun _ => bin_lss_i _ _ _) (decide_eq_true (by omega)) rfl rfl ?_
  refine lx_move rfl rfl rfl ?_
  refine lx_skip rfl rfl rfl ?_
  refine lx_skip rfl rfl rfl ?_
  refine lx_pick rfl rfl rfl rfl rfl ?_
  refine lx_move rfl rfl rfl ?_
  refine lx_skip rfl rfl rfl ?_
  refine lx_skip rfl rfl rfl ?_
  refine lx_skip rfl rfl rfl ?_
  refine lx_pick rfl rfl rfl rfl rfl ?_
  refine lx_move rfl rfl rfl ?_
  refine lx_skip rfl rfl rfl ?_
  refine lx_skip rfl rfl rfl ?_
  refine lx_skip rfl rfl rfl ?_
  refine lx_pick rfl rfl rfl rfl rfl ?_
  refine lx_nil ?_
  refine x_true rfl ?_
  refine xs_plain (E := EE []) ?_
  refine lx_assign rfl rfl rfl ?_
  refine lx_assign rfl rfl rfl ?_
  refine lx_nil ?_
  refine x_ret ?_
  repeat (first | refine kseq_ret ?_ | refine kblk_ret ?_)
  exact kret_tt rfl rfl rfl (fun w hw => ⟨rfl, hp_below hw⟩)
theorem rex_1 (bm : Nat) (a1 : Option Addr) (cap1 : Nat) (msg : List (BitVec 8)) (a2 : Option Addr) (cap2 : Nat) (dst : List (BitVec 8)) (z : Int) (h : 8160 < z) (w : World) (hw : Gt w) : Calls Tryd.prog 8 [.pointer (some ⟨bm, 0, none⟩), .slice a1 msg.length cap1, .slice a2 dst.length cap2, I z].toArray w (fun e w' => e = .returned (.tuple #[.slice none 0 0, I 130]) ∧ Grow w w') := by
  have hGF : BOk Gt (pl w) := gt_low.plain hw
  refine calls_of_X (G := Gt) Tryd.func8 rfl rfl (Hp (pl w) []) (hp_refl (pl w) trivial rides_true) (good_hp hGF) ?_
  refine xs_plain (E := EE []) ?_
  refine lx_assign rfl rfl rfl ?_
  refine lx_assign rfl rfl rfl ?_
  refine lx_nil ?_
  refine x_seq ?_
  refine xs_plain (E := EE []) ?_
  refine lx_move rfl rfl rfl ?_
  refine lx_binB false rfl rfl (fun _ => rfl) (fun _ => bin_lss_i _ _ _) (decide_eq_false (by omega)) rfl rfl ?_
  refine lx_move rfl rfl rfl ?_
  refine lx_move rfl rfl rfl ?_
  refine lx_binB true rfl rfl (fun _ => rfl) (fun _ => bin_gtr_i _ _ _) (decide_eq_true (by omega)) rfl rfl ?_
  refine lx_pick rfl rfl rfl rfl rfl ?_
  refine lx_move rfl rfl rfl ?_
  refine lx_skip rfl rfl rfl ?_
  refine lx_skip rfl rfl rfl ?_
  refine lx_skip rfl rfl rfl ?_
  refine lx_pick rfl rfl rfl rfl rfl ?_
  refine lx_move rfl rfl rfl ?_
  refine lx_skip rfl rfl rfl ?_
  refine lx_skip rfl rfl rfl ?_
  refine lx_skip rfl rfl rfl ?_
  refine lx_pick rfl rfl rfl rfl rfl ?_
  refine lx_nil ?_
  refine x_true rfl ?_
  refine xs_plain (E := EE []) ?_
  refine lx_assign rfl rfl rfl ?_
  refine lx_assign rfl rfl rfl ?_
  refine lx_nil ?_
  refine x_ret ?_
  repeat (first | refine kseq_ret ?_ | refine kblk_ret ?_)
  exact kret_tt rfl rfl rfl (fun w hw => ⟨rfl, hp_below hw⟩)
theorem rex_2 (bm : Nat) (a1 : Option Addr) (cap1 : Nat) (msg : List (BitVec 8)) (a2 : Option Addr) (cap2 : Nat) (dst : List (BitVec 8)) (z : Int) (h0 : ¬ z < 0) (h1 : ¬ 8160 < z) (h : 255 < dst.length) (w : World) (hw : Gt w) : Calls Tryd.prog 8 [.pointer (some ⟨bm, 0, none⟩), .slice a1 msg.length cap1, .slice a2 dst.length cap2, I z].toArray w (fun e w' => e = .returned (.tuple #[.slice none 0 0, I 130]) ∧ Grow w w') := by
  have hGF : BOk Gt (pl w) := gt_low.plain hw
  refine calls_of_X (G := Gt) Tryd.func8 rfl rfl (Hp (pl w) []) (hp_refl (pl w) trivial rides_true) (good_hp hGF) ?_
  refine xs_plain (E := EE []) ?_
  refine lx_assign rfl rfl rfl ?_
  refine lx_assign rfl rfl rfl ?_
  refine lx_nil ?_
  refine x_seq ?_
  refine xs_plain (E := EE []) ?_
  refine lx_move rfl rfl rfl ?_
  refine lx_binB false rfl rfl (fun _ => rfl) (fun _ => bin_lss_i _ _ _) (decide_eq_false (by omega)) rfl rfl ?_
  refine lx_move rfl rfl rfl ?_
  refine lx_move rfl rfl rfl ?_
  refine lx_binB false rfl rfl (fun _ => rfl) (fun _ => bin_gtr_i _ _ _) (decide_eq_false (by omega)) rfl rfl ?_
  refine lx_pick rfl rfl rfl rfl rfl ?_
  refine lx_move rfl rfl rfl ?_
  refine lx_move rfl rfl rfl ?_
  refine lx_len rfl (fun _ => len_slice Tryd.underlying22 _ _ _ _) rfl rfl ?_
  refine lx_binB true rfl rfl (fun _ => rfl) (fun _ => bin_gtr_i _ _ _) (decide_eq_true (by omega)) rfl rfl ?_
  refine lx_pick rfl rfl rfl rfl rfl ?_
  refine lx_move rfl rfl rfl ?_
  refine lx_skip rfl rfl rfl ?_
  refine lx_skip rfl rfl rfl ?_
  refine lx_skip rfl rfl rfl ?_
  refine lx_pick rfl rfl rfl rfl rfl ?_
  refine lx_nil ?_
  refine x_true rfl ?_
  refine xs_plain (E := EE []) ?_
  refine lx_assign rfl rfl rfl ?_
  refine lx_assign rfl rfl rfl ?_
  refine lx_nil ?_
  refine x_ret ?_
  repeat (first | refine kseq_ret ?_ | refine kblk_ret ?_)
  exact kret_tt rfl rfl rfl (fun w hw => ⟨rfl, hp_below hw⟩)
theorem rex_3 (bm : Nat) (a1 : Option Addr) (cap1 : Nat) (msg : List (BitVec 8)) (a2 : Option Addr) (cap2 : Nat) (dst : List (BitVec 8)) (z : Int) (h0 : ¬ z < 0) (h1 : ¬ 8160 < z) (h2 : ¬ 255 < dst.length) (h : 65536 < msg.length) (w : World) (hw : Gt w) : Calls Tryd.prog 8 [.pointer (some ⟨bm, 0, none⟩), .slice a1 msg.length cap1, .slice a2 dst.length cap2, I z].toArray w (fun e w' => e = .returned (.tuple #[.slice none 0 0, I 130]) ∧ Grow w w') := by
  have hGF : BOk Gt (pl w) := gt_low.plain hw
  refine calls_of_X (G := Gt) Tryd.func8 rfl rfl (Hp (pl w) []) (hp_refl (pl w) trivial rides_true) (good_hp hGF) ?_
  refine xs_plain (E := EE []) ?_
  refine lx_assign rfl rfl rfl ?_
  refine lx_assign rfl rfl rfl ?_
  refine lx_nil ?_
  refine x_seq ?_
  refine xs_plain (E := EE []) ?_
  refine lx_move rfl rfl rfl ?_
  refine lx_binB false rfl rfl (fun _ => rfl) (fun _ => bin_lss_i _ _ _) (decide_eq_false (by omega)) rfl rfl ?_
  refine lx_move rfl rfl rfl ?_
  refine lx_move rfl rfl rfl ?_
  refine lx_binB false rfl rfl (fun _ => rfl) (fun _ => bin_gtr_i _ _ _) (decide_eq_false (by omega)) rfl rfl ?_
  refine lx_pick rfl rfl rfl rfl rfl ?_
  refine lx_move rfl rfl rfl ?_
  refine lx_move rfl rfl rfl ?_
  refine lx_len rfl (fun _ => len_slice Tryd.underlying22 _ _ _ _) rfl rfl ?_
  refine lx_binB false rfl rfl (fun _ => rfl) (fun _ => bin_gtr_i _ _ _) (decide_eq_false (by omega)) rfl rfl ?_
  refine lx_pick rfl rfl rfl rfl rfl ?_
  refine lx_move rfl rfl rfl ?_
  refine lx_move rfl rfl rfl ?_
  refine lx_len rfl (fun _ => len_slice Tryd.underlying22 _ _ _ _) rfl rfl ?_
  refine lx_binB true rfl rfl (fun _ => rfl) (fun _ => bin_gtr_i _ _ _) (decide_eq_true (by omega)) rfl rfl ?_
  refine lx_pick rfl rfl rfl rfl rfl ?_
  refine lx_nil ?_
  refine x_true rfl ?_
  refine xs_plain (E := EE []) ?_
  refine lx_assign rfl rfl rfl ?_
  refine lx_assign rfl rfl rfl ?_
  refine lx_nil ?_
  refine x_ret ?_
  repeat (first | refine kseq_ret ?_ | refine kblk_ret ?_)
  exact kret_tt rfl rfl rfl (fun w hw => ⟨rfl, hp_below hw⟩)
theorem bk_at {w : World} {b : Nat} {c : List Value} {xs : List (BitVec 8)} (h : w.rangeAt b 0 c) (h2 : c.take xs.length = xs.map U8) : BytesAt w (some ⟨b, 0, none⟩) xs := BytesAt.range fun j v hv => h j v (by
  rw [← h2, List.getElem?_take] at hv
  split at hv
  · exact hv
  · cases hv)
/-- What stands at the loop's head. -/
structure LpV (b d : List (BitVec 8)) (m : Nat) where
  (k : Nat) (a0 : Option Addr) (cap : Nat) (own : Hl)
  hk : k ≤ m
  hs : OwnSl own 50 5 a0 cap (O b d k)
  ho : own = [] ∨ ∃ z, own = [(50, z)]
theorem sub_tl {own L : Hl} (ho : own = [] ∨ ∃ z, own = [(50, z)]) (h : lkB L 50 = lkB own 50) : SubB L own := by
  rcases ho with rfl | ⟨z, rfl⟩
  · exact trivial
  · exact ⟨h, trivial⟩
theorem own_cap {own : Hl} {a0 : Option Addr} {cap : Nat} {xs : List (BitVec 8)} (h : OwnSl own 50 5 a0 cap xs) : xs.length ≤ cap := by
  rcases h with ⟨_, rfl, rfl⟩ | ⟨_, _, _, _, _, h, _⟩
  · exact Nat.le_refl _
  · exact h
def X16 (b l : List (BitVec 8)) (k : Nat) : List (BitVec 8) := if k = 0 then b else R b l 32
theorem X16_len {b l : List (BitVec 8)} (hb : b.length = 32) (k : Nat) : (X16 b l k).length = 32 := by
  unfold X16
  split
  · exact hb
  · rw [R_len]; exact hb
theorem app_ne {xs ys : List (BitVec 8)} (h : ys.length = 32) (e : xs ++ ys = []) : False := by
  have := congrArg List.length e
  rw [List.length_append, h, List.length_nil] at this
  omega
theorem take_two {c : List Value} {xs : List (BitVec 8)} {n : Nat} (h : c.take xs.length = xs.map U8) (hn : n ≤ xs.length) : c.take n = (xs.take n).map U8 := by
  have e := congrArg (List.take n) h
  rw [List.take_take, Nat.min_eq_left hn] at e
  rw [e, List.map_take]
attribute [local simp] X16_len
theorem rex_ok (bm : Nat) (a1 : Option Addr) (cap1 : Nat) (msg : List (BitVec 8)) (a2 : Option Addr) (cap2 : Nat) (dst : List (BitVec 8)) (n : Nat) (hn : n ≤ 8160) (hd : dst.length ≤ 255) (hm : msg.length ≤ 65536) (w : World) (hw : Gt w) (ho : OwnB w bm (Sh.MK.map U32) 64) (hb1 : BytesAt w a1 msg) (hb2 : BytesAt w a2 dst) : Calls Tryd.prog 8 [.pointer (some ⟨bm, 0, none⟩), .slice a1 msg.length cap1, .slice a2 dst.length cap2, I (n : Int)].toArray w (fun e w' => ∃ sv, e = .returned (.tuple #[sv, I 0]) ∧ Grow w w' ∧ Sh.Cln w w' (E msg dst n) sv) := by
  have hGF : BOk Gt (pl w) := gt_low.plain hw
  refine calls_of_X (G := Gt) Tryd.func8 rfl rfl (Hp (pl w) []) (hp_refl (pl w) trivial rides_true) (good_hp hGF) ?_
  refine xs_plain (E := EE []) ?_
  refine lx_assign rfl rfl rfl ?_
  refine lx_assign rfl rfl rfl ?_
  refine lx_nil ?_
  refine x_seq ?_
  refine xs_plain (E := EE []) ?_
  refine lx_move rfl rfl rfl ?_
  refine lx_binB false rfl rfl (fun _ => rfl) (fun _ => bin_lss_i _ _ _) (decide_eq_false (by omega)) rfl rfl ?_
  refine lx_move rfl rfl rfl ?_
  refine lx_move rfl rfl rfl ?_
  refine lx_binB false rfl rfl (fun _ => rfl) (fun _ => bin_gtr_i _ _ _) (decide_eq_false (by omega)) rfl rfl ?_
  refine lx_pick rfl rfl rfl rfl rfl ?_
  refine lx_move rfl rfl rfl ?_
  refine lx_move rfl rfl rfl ?_
  refine lx_len rfl (fun _ => len_slice Tryd.underlying22 _ _ _ _) rfl rfl ?_
  refine lx_binB false rfl rfl (fun _ => rfl) (fun _ => bin_gtr_i _ _ _) (decide_eq_false (by omega)) rfl rfl ?_
  refine lx_pick rfl rfl rfl rfl rfl ?_
  refine lx_move rfl rfl rfl ?_
  refine lx_move rfl rfl rfl ?_
  refine lx_len rfl (fun _ => len_slice Tryd.underlying22 _ _ _ _) rfl rfl ?_
  refine lx_binB false rfl rfl (fun _ => rfl) (fun _ => bin_gtr_i _ _ _) (decide_eq_false (by omega)) rfl rfl ?_
  refine lx_pick rfl rfl rfl rfl rfl ?_
  refine lx_nil ?_
  refine x_false rfl ?_
  refine x_skip ?_
  refine x_join (ι := Bk (D dst)) (fun z => [(0, .pointer (some ⟨bm, 0, none⟩)), (1, .slice a1 msg.length cap1), (3, I (n : Int)), (10, .slice (some ⟨z.b, 0, none⟩) (D dst).length z.c.length)]) (fun z => [(10, z.b, z.c, 5)]) hGF ?_ ?_
  · skip
    refine x_plain (E := EE []) ?_
    refine lx_move rfl rfl rfl ?_
    refine lx_append (xs := []) (ys := dst) 10 hGF rfl rfl Tryd.underlying22 Tryd.underlying22 ti5 (ownSl_nil _ _ _) (fun w' h => hb2.grow (hp_below h)) (by first | omega | (simp <;> omega)) rfl rfl (fun h0 => ?_) (fun b35 c35 cap35 e35 l35 t35 => ?_)
    · skip
      have hd : dst = [] := h0
      subst hd
      clear h0
      refine lx_move rfl rfl rfl ?_
      refine lx_len rfl (fun _ => len_slice Tryd.underlying22 _ _ _ _) rfl rfl ?_
      refine lx_conv rfl rfl (fun _ => conv_i_u8 Tryd.underlying3 Tryd.underlying5 _) rfl rfl ?_
      refine lx_bsl 39 [BitVec.ofInt 8 ((List.length ([] : List (BitVec 8)) : Nat) : Int)] hGF rfl rfl rfl (by decide) (by decide) Tryd.underlying22 Tryd.sizeOf5 Tryd.zeroValue5 rfl rfl ?_
      intro b39
      refine lx_append (xs := []) (ys := [BitVec.ofInt 8 ((List.length ([] : List (BitVec 8)) : Nat) : Int)]) 10 hGF rfl rfl Tryd.underlying22 Tryd.underlying22 ti5 (ownSl_nil _ _ _) (fun w' h => BytesAt.range (hp_row (n := 39) rfl w' h)) (by first | omega | (simp <;> omega)) rfl rfl (fun h0 => ?_) (fun b40 c40 cap40 e40 l40 t40 => ?_)
      · simp at h0
      subst e40
      refine lx_assign rfl rfl rfl ?_
      refine lx_nil ?_
      refine kseq_n ?_
      exact ⟨rfl, ⟨b40, c40, l40, t40⟩, _, rfl, ⟨rfl, rfl, rfl, rfl, trivial⟩, ⟨rfl, trivial⟩⟩
    · skip
      subst e35
      refine lx_move rfl rfl rfl ?_
      refine lx_len rfl (fun _ => len_slice Tryd.underlying22 _ _ _ _) rfl rfl ?_
      refine lx_conv rfl rfl (fun _ => conv_i_u8 Tryd.underlying3 Tryd.underlying5 _) rfl rfl ?_
      refine lx_bsl 39 [BitVec.ofInt 8 (dst.length : Int)] hGF rfl rfl rfl (by decide) (by decide) Tryd.underlying22 Tryd.sizeOf5 Tryd.zeroValue5 rfl rfl ?_
      intro b39
      refine lx_append (xs := dst) (ys := [BitVec.ofInt 8 (dst.length : Int)]) 10 hGF rfl rfl Tryd.underlying22 Tryd.underlying22 ti5 (.inr ⟨b35, c35, rfl, rfl, rfl, l35, t35⟩) (fun w' h => BytesAt.range (hp_row (n := 39) rfl w' h)) (by first | omega | (simp <;> omega)) rfl rfl (fun h0 => ?_) (fun b40 c40 cap40 e40 l40 t40 => ?_)
      · simp at h0
      subst e40
      refine lx_assign rfl rfl rfl ?_
      refine lx_nil ?_
      refine kseq_n ?_
      exact ⟨rfl, ⟨b40, c40, l40, t40⟩, _, rfl, ⟨rfl, rfl, rfl, rfl, trivial⟩, ⟨rfl, trivial⟩⟩
  · intro z
    obtain ⟨bd, cd, hd1, hd2⟩ := z
    dsimp only
    refine xs_plain (E := EE []) ?_
    refine lx_mksl 41 hGF rfl rfl Tryd.underlying22 ti5.choose_spec.1 ti5.choose_spec.2.1 (hmk 64 (by decide)) (hmc 64 ti5.choose_spec mc64) rfl rfl ?_
    intro b41
    refine lx_move rfl rfl rfl ?_
    refine lx_append (xs := List.replicate 64 0#8) (ys := msg) 41 hGF rfl rfl Tryd.underlying22 Tryd.underlying22 ti5 (.inr ⟨b41, _, rfl, rfl, by simp, by simp, by simp⟩) (fun w' h => hb1.grow (hp_below h)) (by first | omega | (simp <;> omega)) rfl rfl (fun h0 => ?_) (fun b43 c43 cap43 e43 l43 t43 => ?_)
    · simp at h0
    subst e43
    refine lx_assign rfl rfl rfl ?_
    refine lx_nil ?_
    refine xs_plain (E := EE []) ?_
    refine lx_move rfl rfl rfl ?_
    refine lx_move rfl rfl rfl ?_
    refine lx_bin rfl rfl (fun _ => rfl) (fun _ => bin_shr8 _ _) rfl rfl ?_
    refine lx_conv rfl rfl (fun _ => conv_i_u8 Tryd.underlying3 Tryd.underlying5 _) rfl rfl ?_
    refine lx_move rfl rfl rfl ?_
    refine lx_conv rfl rfl (fun _ => conv_i_u8 Tryd.underlying3 Tryd.underlying5 _) rfl rfl ?_
    refine lx_bsl 50 [BitVec.ofInt 8 ((n / 256 : Nat) : Int), BitVec.ofInt 8 (n : Int), 0#8] hGF rfl rfl rfl (by decide) (by decide) Tryd.underlying22 Tryd.sizeOf5 Tryd.zeroValue5 rfl rfl ?_
    intro b50
    refine lx_append (xs := List.replicate 64 0#8 ++ msg) (ys := [BitVec.ofInt 8 ((n / 256 : Nat) : Int), BitVec.ofInt 8 (n : Int), 0#8]) 41 hGF rfl rfl Tryd.underlying22 Tryd.underlying22 ti5 (.inr ⟨b43, c43, rfl, rfl, rfl, l43, t43⟩) (fun w' h => BytesAt.range (hp_row (n := 50) rfl w' h)) (by first | omega | (simp <;> omega)) rfl rfl (fun h0 => ?_) (fun b51 c51 cap51 e51 l51 t51 => ?_)
    · simp at h0
    subst e51
    refine lx_move rfl rfl rfl ?_
    refine lx_append (xs := (List.replicate 64 0#8 ++ msg) ++ [BitVec.ofInt 8 ((n / 256 : Nat) : Int), BitVec.ofInt 8 (n : Int), 0#8]) (ys := (D dst)) 41 hGF rfl rfl Tryd.underlying22 Tryd.underlying22 ti5 (.inr ⟨b51, c51, rfl, rfl, rfl, l51, t51⟩) (fun w' h => bk_at (hp_row (n := 10) rfl w' h) hd2) (by first | omega | (simp <;> omega)) rfl rfl (fun h0 => ?_) (fun b53 c53 cap53 e53 l53 t53 => ?_)
    · simp at h0
    subst e53
    refine lx_assign rfl rfl rfl ?_
    refine lx_nil ?_
    refine xs_plain (E := EE []) ?_
    refine lx_move rfl rfl rfl ?_
    refine lx_move rfl rfl rfl ?_
    refine lx_callC rfl rfl ent19 (fun w' hC hG => sum_calls bm (some ⟨b53, 0, none⟩) _ _ (F msg dst n) rfl (by first | omega | (simp <;> omega)) w' hG (own_grow ho (hp_below hC)) (bk_at (hp_row (n := 41) rfl w' hC) t53)) rfl rfl ?_
    refine lx_allocr 12 hGF zv55 rfl rfl ?_
    intro b12
    refine lx_storea 12 hGF rfl rfl rfl Tryd.sizeOf55 (by simp) (by simp) (one_u8 _) rfl ?_
    refine lx_nil ?_
    refine xs_plain (E := EE []) ?_
    refine lx_assign rfl rfl rfl ?_
    refine lx_nil ?_
    refine xs_plain (E := EE []) ?_
    refine lx_allocr 14 hGF zv55 rfl rfl ?_
    intro b14
    refine lx_nil ?_
    refine x_seq ?_
    refine xs_plain (E := EE []) ?_
    refine lx_assign rfl rfl rfl ?_
    refine lx_nil ?_
    refine x_block ?_
    refine x_for (ι := LpV (B0 msg dst n) (D dst) ((n + 31) / 32)) (fun z => [(0, .pointer (some ⟨bm, 0, none⟩)), (3, I (n : Int)), (10, .slice (some ⟨bd, 0, none⟩) (D dst).length cd.length), (12, .pointer (some ⟨b12, 0, none⟩)), (13, .slice z.a0 (O (B0 msg dst n) (D dst) z.k).length z.cap), (14, .pointer (some ⟨b14, 0, none⟩)), (15, I ((z.k + 1 : Nat) : Int))]) (fun z => (10, bd, cd, 5) :: (12, b12, (B0 msg dst n).map U8, 55) :: (14, b14, (Xk (B0 msg dst n) (D dst) z.k).map U8, 55) :: z.own) (fun z => ((n + 31) / 32) - z.k) ⟨0, none, 0, [], by omega, ownSl_nil _ _ _, .inl rfl⟩ hGF ⟨rfl, rfl, rfl, rfl, rfl, rfl, rfl, trivial⟩ ⟨rfl, rfl, rfl, trivial⟩ ?_
    rintro ⟨k, a0, cap, own, hk, hs, hown⟩
    dsimp only at hs hown ⊢
    have hx : (X16 (B0 msg dst n) (Xk (B0 msg dst n) (D dst) k) k).length = 32 := X16_len (Sh.SHA_len _) k
    have hcap := own_cap hs
    rw [O_len] at hcap
    refine x_seq ?_
    refine xs_plain (E := EE []) ?_
    refine lx_move rfl rfl rfl ?_
    refine lx_len rfl (fun _ => len_slice Tryd.underlying22 _ _ _ _) rfl rfl ?_
    refine lx_move rfl rfl rfl ?_
    refine lx_bin rfl rfl (fun _ => rfl) (fun _ => bin_lss_i _ _ _) rfl rfl ?_
    refine lx_nil ?_
    refine x_if rfl (fun hc => ?_) (fun hc => ?_)
    · have hlt : 32 * k < n := by rw [O_len] at hc; simp at hc; omega
      clear hc
      refine x_skip ?_
      refine x_seq ?_
      refine x_block ?_
      refine xs_plain (E := EE []) ?_
      refine lx_loada 12 rfl rfl Tryd.isAgg55 Tryd.sizeOf55 (by simp) rfl rfl ?_
      refine lx_allocr 16 hGF zv55 rfl rfl ?_
      intro b16
      refine lx_storea 16 hGF rfl rfl rfl Tryd.sizeOf55 (by simp) (by simp) (one_u8 _) rfl ?_
      refine lx_nil ?_
      refine x_join (ι := Unit) (fun _ => [(0, .pointer (some ⟨bm, 0, none⟩)), (3, I (n : Int)), (10, .slice (some ⟨bd, 0, none⟩) (D dst).length cd.length), (12, .pointer (some ⟨b12, 0, none⟩)), (13, .slice a0 (O (B0 msg dst n) (D dst) k).length cap), (14, .pointer (some ⟨b14, 0, none⟩)), (15, I ((k + 1 : Nat) : Int)), (16, .pointer (some ⟨b16, 0, none⟩))]) (fun _ => (16, b16, (X16 (B0 msg dst n) (Xk (B0 msg dst n) (D dst) k) k).map U8, 55) :: (10, bd, cd, 5) :: (12, b12, (B0 msg dst n).map U8, 55) :: (14, b14, (Xk (B0 msg dst n) (D dst) k).map U8, 55) :: own) hGF ?_ ?_
      · skip
        by_cases hk0 : k = 0
        · skip
          refine xs_plain (E := EE []) ?_
          refine lx_move rfl rfl rfl ?_
          refine lx_binB false rfl rfl (fun _ => rfl) (fun _ => bin_gtr_i _ _ _) (decide_eq_false (by omega)) rfl rfl ?_
          refine lx_nil ?_
          refine x_false rfl ?_
          refine x_skip ?_
          repeat (refine kblk_n ?_)
          refine kseq_n ?_
          exact ⟨rfl, (), _, rfl, ⟨rfl, rfl, rfl, rfl, rfl, rfl, rfl, rfl, trivial⟩, ⟨by rw [X16, if_pos hk0]; rfl, rfl, rfl, rfl, sub_tl hown rfl⟩⟩
        · skip
          refine xs_plain (E := EE []) ?_
          refine lx_move rfl rfl rfl ?_
          refine lx_binB true rfl rfl (fun _ => rfl) (fun _ => bin_gtr_i _ _ _) (decide_eq_true (by omega)) rfl rfl ?_
          refine lx_nil ?_
          refine x_true rfl ?_
          refine xs_plain (E := EE []) ?_
          refine lx_assign rfl rfl rfl ?_
          refine lx_nil ?_
          refine x_block ?_
          refine x_for (ι := { j : Nat // j ≤ 32 }) (fun y => [(0, .pointer (some ⟨bm, 0, none⟩)), (3, I (n : Int)), (10, .slice (some ⟨bd, 0, none⟩) (D dst).length cd.length), (12, .pointer (some ⟨b12, 0, none⟩)), (13, .slice a0 (O (B0 msg dst n) (D dst) k).length cap), (14, .pointer (some ⟨b14, 0, none⟩)), (15, I ((k + 1 : Nat) : Int)), (16, .pointer (some ⟨b16, 0, none⟩)), (17, I (y.1 : Int))]) (fun y => (16, b16, (R (B0 msg dst n) (Xk (B0 msg dst n) (D dst) k) y.1).map U8, 55) :: (10, bd, cd, 5) :: (12, b12, (B0 msg dst n).map U8, 55) :: (14, b14, (Xk (B0 msg dst n) (D dst) k).map U8, 55) :: own) (fun y => 32 - y.1) ⟨0, by omega⟩ hGF ⟨rfl, rfl, rfl, rfl, rfl, rfl, rfl, rfl, rfl, trivial⟩ ⟨rfl, rfl, rfl, rfl, sub_tl hown rfl⟩ ?_
          rintro ⟨j, hj⟩
          dsimp only
          refine x_seq ?_
          refine xs_plain (E := EE []) ?_
          refine lx_move rfl rfl rfl ?_
          refine lx_bin rfl rfl (fun _ => rfl) (fun _ => bin_lss_i _ _ _) rfl rfl ?_
          refine lx_nil ?_
          refine x_if rfl (fun hc => ?_) (fun hc => ?_)
          · simp only [decide_eq_true_eq] at hc
            refine x_skip ?_
            refine x_seq ?_
            refine x_block ?_
            refine x_drawn (E := EE []) mixed (by kernel_rfl) (by kernel_rfl) (by kernel_rfl) ?_
            refine lx_move rfl rfl rfl ?_
            refine lx_move rfl rfl rfl ?_
            refine lx_ia0 (j) rfl rfl Tryd.underlying55 Tryd.sizeOf5 (by omega) (by omega) rfl rfl ?_
            refine lx_loadm 12 U8 0 rfl rfl Tryd.isAgg5 (by simp; try omega) rfl rfl ?_
            refine lx_move rfl rfl rfl ?_
            refine lx_ia0 (j) rfl rfl Tryd.underlying55 Tryd.sizeOf5 (by omega) (by omega) rfl rfl ?_
            refine lx_loadm 14 U8 0 rfl rfl Tryd.isAgg5 (by simp; try omega) rfl rfl ?_
            refine lx_bin rfl rfl (fun _ => rfl) (fun _ => bin_xor_u8 _ _ _) rfl rfl ?_
            refine lx_ia0 (j) rfl rfl Tryd.underlying55 Tryd.sizeOf5 (by omega) (by omega) rfl rfl ?_
            refine lx_storem 16 U8 hGF rfl rfl rfl Tryd.sizeOf5 rfl (by simp; try omega) rfl ?_
            refine lx_nil ?_
            refine x_plain (E := EE []) ?_
            refine lx_move rfl rfl rfl ?_
            refine lx_bin rfl rfl (fun _ => rfl) (fun _ => bin_add_i _ _ _ (by unfold inI; omega)) rfl rfl ?_
            refine lx_assign rfl rfl rfl ?_
            refine lx_nil ?_
            repeat (refine kblk_n ?_)
            refine kseq_n ?_
            exact ⟨rfl, ⟨j + 1, by omega⟩, _, by show 32 - (j + 1) < 32 - j; omega, rfl, ⟨rfl, rfl, rfl, rfl, rfl, rfl, rfl, rfl, rfl, trivial⟩, ⟨rfl, rfl, rfl, rfl, sub_tl hown rfl⟩⟩
          · obtain rfl : j = 32 := by simp at hc; omega
            refine x_exit ?_
            repeat (first | refine kseq_x ?_ | refine kblk_x ?_)
            refine kseq_n ?_
            exact ⟨rfl, (), _, rfl, ⟨rfl, rfl, rfl, rfl, rfl, rfl, rfl, rfl, trivial⟩, ⟨by rw [X16, if_neg hk0]; rfl, rfl, rfl, rfl, sub_tl hown rfl⟩⟩
      · intro _
        refine xs_plain (E := EE []) ?_
        refine lx_move rfl rfl rfl ?_
        refine lx_slarr1 (l := 0) (h' := 32) rfl Tryd.underlying55 Tryd.sizeOf5 rfl rfl (by omega) (by omega) rfl rfl ?_
        refine lx_append (xs := []) (ys := X16 (B0 msg dst n) (Xk (B0 msg dst n) (D dst) k) k) 60 hGF rfl (by rw [hx]; rfl) Tryd.underlying22 Tryd.underlying22 ti5 (ownSl_nil _ _ _) (fun w' h => BytesAt.range (hp_row (n := 16) rfl w' h)) (by rw [hx]; decide) rfl rfl (fun h0 => ?_) (fun b81 c81 cap81 e81 l81 t81 => ?_)
        · exact (app_ne hx h0).elim
        subst e81
        refine lx_move rfl rfl rfl ?_
        refine lx_conv rfl rfl (fun _ => conv_i_u8 Tryd.underlying3 Tryd.underlying5 _) rfl rfl ?_
        refine lx_bsl 84 [BitVec.ofInt 8 ((k + 1 : Nat) : Int)] hGF rfl rfl rfl (by decide) (by decide) Tryd.underlying22 Tryd.sizeOf5 Tryd.zeroValue5 rfl rfl ?_
        intro b84
        refine lx_append (xs := X16 (B0 msg dst n) (Xk (B0 msg dst n) (D dst) k) k) (ys := [BitVec.ofInt 8 ((k + 1 : Nat) : Int)]) 60 hGF rfl rfl Tryd.underlying22 Tryd.underlying22 ti5 (.inr ⟨b81, c81, rfl, rfl, rfl, l81, t81⟩) (fun w' h => BytesAt.range (hp_row (n := 84) rfl w' h)) (by rw [hx]; show 32 + 1 ≤ _; decide) rfl rfl (fun h0 => ?_) (fun b85 c85 cap85 e85 l85 t85 => ?_)
        · simp at h0
        subst e85
        refine lx_move rfl rfl rfl ?_
        refine lx_append (xs := (X16 (B0 msg dst n) (Xk (B0 msg dst n) (D dst) k) k) ++ [BitVec.ofInt 8 ((k + 1 : Nat) : Int)]) (ys := (D dst)) 60 hGF rfl rfl Tryd.underlying22 Tryd.underlying22 ti5 (.inr ⟨b85, c85, rfl, rfl, rfl, l85, t85⟩) (fun w' h => bk_at (hp_row (n := 10) rfl w' h) hd2) (by rw [List.length_append, hx, D_len]; first | omega | (simp <;> omega)) rfl rfl (fun h0 => ?_) (fun b87 c87 cap87 e87 l87 t87 => ?_)
        · simp at h0
        subst e87
        refine lx_callC rfl rfl ent19 (fun w' hC hG => sum_calls bm (some ⟨b87, 0, none⟩) _ _ (((X16 (B0 msg dst n) (Xk (B0 msg dst n) (D dst) k) k) ++ [BitVec.ofInt 8 ((k + 1 : Nat) : Int)]) ++ (D dst)) rfl (by rw [List.length_append, List.length_append, hx, D_len]; first | omega | (simp <;> omega)) w' hG (own_grow ho (hp_below hC)) (bk_at (hp_row (n := 60) rfl w' hC) t87)) rfl rfl ?_
        rw [show Sh.SHA (((X16 (B0 msg dst n) (Xk (B0 msg dst n) (D dst) k) k) ++ [BitVec.ofInt 8 ((k + 1 : Nat) : Int)]) ++ (D dst)) = Xk (B0 msg dst n) (D dst) (k + 1) by rw [Xk]; rfl]
        refine lx_storea 14 hGF rfl rfl rfl Tryd.sizeOf55 (by simp) (by simp) (one_u8 _) rfl ?_
        refine lx_nil ?_
        refine x_plain (E := EE []) ?_
        refine lx_move rfl rfl rfl ?_
        refine lx_slarr1 (l := 0) (h' := 32) rfl Tryd.underlying55 Tryd.sizeOf5 rfl rfl (by omega) (by omega) rfl rfl ?_
        refine lx_append (xs := O (B0 msg dst n) (D dst) k) (ys := Xk (B0 msg dst n) (D dst) (k + 1)) 50 hGF rfl (by rw [Xk_len]; rfl) Tryd.underlying22 Tryd.underlying22 ti5 (OwnSl.of hs rfl) (fun w' h => BytesAt.range (hp_row (n := 14) rfl w' h)) (by rw [O_len, Xk_len]; omega) rfl rfl (fun h0 => ?_) (fun b91 c91 cap91 e91 l91 t91 => ?_)
        · exact (app_ne (Xk_len _ _ _) h0).elim
        subst e91
        refine lx_assign rfl rfl rfl ?_
        refine lx_nil ?_
        refine x_plain (E := EE []) ?_
        refine lx_move rfl rfl rfl ?_
        refine lx_bin (v := I ((k + 1 + 1 : Nat) : Int)) rfl rfl (fun _ => rfl) (fun _ => (bin_add_i _ _ _ (by unfold inI; omega)).trans (by rfl)) rfl rfl ?_
        refine lx_assign rfl rfl rfl ?_
        refine lx_nil ?_
        repeat (first | refine kblk_n ?_ | refine kblk_x ?_)
        refine kseq_n ?_
        exact ⟨rfl, ⟨k + 1, some ⟨b91, 0, none⟩, c91.length, [(50, b91, c91, 5)], by omega, .inr ⟨b91, c91, rfl, rfl, rfl, l91, t91⟩, .inr ⟨_, rfl⟩⟩, _, by show ((n + 31) / 32) - (k + 1) < ((n + 31) / 32) - k; omega, rfl, ⟨rfl, rfl, rfl, rfl, rfl, rfl, rfl, trivial⟩, ⟨rfl, rfl, rfl, rfl, trivial⟩⟩
    · have hge : n ≤ 32 * k := by rw [O_len] at hc; simp at hc; omega
      clear hc
      obtain rfl : k = (n + 31) / 32 := by omega
      refine x_exit ?_
      refine xs_plain (E := EE []) ?_
      refine lx_move rfl rfl rfl ?_
      refine lx_move rfl rfl rfl ?_
      refine lx_slsl (l := 0) (h' := n) rfl Tryd.underlying22 Tryd.sizeOf5 rfl rfl (by omega) rfl rfl ?_
      refine lx_assign rfl rfl rfl ?_
      refine lx_assign rfl rfl rfl ?_
      refine lx_nil ?_
      refine x_ret ?_
      repeat (first | refine kseq_ret ?_ | refine kblk_ret ?_ | refine kng_ret ?_)
      rcases hs with ⟨rfl, e0, rfl⟩ | ⟨b, c, rfl, hl, hc, hle, ht⟩
      · have hn0 : n = 0 := by have := congrArg List.length e0; rw [O_len, List.length_nil] at this; omega
        subst hn0
        exact kret_tt rfl rfl rfl (fun w hw => ⟨_, rfl, hp_below hw, .inl ⟨rfl, rfl⟩⟩)
      · have e1 : (if cap = 0 then (some ⟨b, 0, none⟩ : Option Addr) else (some ⟨b, 0, none⟩ : Option Addr).map (·.add (0 * 1))) = some ⟨b, 0, none⟩ := by split <;> rfl
        rcases hown with rfl | ⟨z, rfl⟩
        · cases hl
        · have hz : z = (b, c, 5) := Option.some.inj hl
          subst hz
          exact kret_tt rfl rfl rfl (fun w hw => ⟨_, rfl, hp_below hw, .inr ⟨b, c, _, by rw [e1, E_len]; rfl, (hw.own 50 b _ _ rfl).2.elim id False.elim, (hw.own 50 b _ _ rfl).1, hc, by rw [E_len]; omega, by rw [E_len]; exact take_two ht (by rw [O_len]; omega)⟩⟩)
end Xm
end Go.Proofs.YtlimfhjjadbjgaaDoor

namespace Go.Proofs.YtlimfhjjadbjgaaDoor
open Go.RowKit
set_option maxRecDepth 100000
set_option maxHeartbeats 1000000

theorem ent7 : Enters Tryd.prog 7 := fun _ _ => by kernel_rfl
theorem ent12 : Enters Tryd.prog 12 := fun _ _ => by kernel_rfl
theorem ent6 : Enters Tryd.prog 6 := fun _ _ => by kernel_rfl
namespace Xm
attribute [local simp] Sh.SHA_len B0_len F_len R_len Xk_len O_len Sh.MK_len D_len

/-- What may not be. -/
def Bad (msg dst : List (BitVec 8)) (z : Int) : Prop := z < 0 ∨ 8160 < z ∨ 255 < dst.length ∨ 65536 < msg.length
/-- What is answered, and by which number. -/
structure RT (msg dst : List (BitVec 8)) (z : Int) (w : World) (v : Value) : Prop where
  bad : Bad msg dst z → v = .tuple #[.slice none 0 0, I 130]
  ok : ¬ Bad msg dst z → ∃ a cap, v = .tuple #[.slice a (E msg dst z.toNat).length cap, I 0] ∧ BytesAt w a (E msg dst z.toNat) ∧ (E msg dst z.toNat).length ≤ cap
theorem cln_at {w w' : World} {bs : List (BitVec 8)} {sv : Value} (h : Sh.Cln w w' bs sv) : ∃ a cap, sv = .slice a bs.length cap ∧ BytesAt w' a bs ∧ bs.length ≤ cap := by
  rcases h with ⟨rfl, rfl⟩ | ⟨b, c, cap, rfl, _, ho, _, hle, ht⟩
  · exact ⟨none, 0, rfl, fun j v hv => by simp at hv, Nat.le_refl _⟩
  · exact ⟨_, _, rfl, bk_at ho.range ht, hle⟩
theorem rexpand (bm : Nat) (a1 : Option Addr) (cap1 : Nat) (msg : List (BitVec 8)) (a2 : Option Addr) (cap2 : Nat) (dst : List (BitVec 8)) (z : Int) (w : World) (hw : Gt w) (ho : OwnB w bm (Sh.MK.map U32) 64) (hb1 : BytesAt w a1 msg) (hb2 : BytesAt w a2 dst) : Calls Tryd.prog 8 [.pointer (some ⟨bm, 0, none⟩), .slice a1 msg.length cap1, .slice a2 dst.length cap2, I z].toArray w (fun e w' => ∃ v, e = .returned v ∧ Grow w w' ∧ RT msg dst z w' v) := by
  have err : Bad msg dst z → ∀ {e : Ending} {w' : World}, e = .returned (.tuple #[.slice none 0 0, I 130]) ∧ Grow w w' → ∃ v, e = .returned v ∧ Grow w w' ∧ RT msg dst z w' v := fun hb _ _ h => ⟨_, h.1, h.2, fun _ => rfl, fun hn => absurd hb hn⟩
  by_cases h0 : z < 0
  · exact (rex_0 bm a1 cap1 msg a2 cap2 dst z h0 w hw).mono fun _ _ h => err (.inl h0) h
  by_cases h1 : 8160 < z
  · exact (rex_1 bm a1 cap1 msg a2 cap2 dst z h1 w hw).mono fun _ _ h => err (.inr (.inl h1)) h
  by_cases h2 : 255 < dst.length
  · exact (rex_2 bm a1 cap1 msg a2 cap2 dst z h0 h1 h2 w hw).mono fun _ _ h => err (.inr (.inr (.inl h2))) h
  by_cases h3 : 65536 < msg.length
  · exact (rex_3 bm a1 cap1 msg a2 cap2 dst z h0 h1 h2 h3 w hw).mono fun _ _ h => err (.inr (.inr (.inr h3))) h
  obtain ⟨n, rfl⟩ : ∃ n : Nat, z = (n : Int) := ⟨z.toNat, by omega⟩
  refine (rex_ok bm a1 cap1 msg a2 cap2 dst n (by omega) (by omega) (by omega) w hw ho hb1 hb2).mono fun e w' ⟨sv, he, hg, hc⟩ => ⟨_, he, hg, fun hb => absurd hb ?_, fun _ => ?_⟩
  · rintro (h | h | h | h) <;> omega
  · obtain ⟨a, cap, rfl, hby, hle⟩ := cln_at hc
    exact ⟨a, cap, rfl, hby, hle⟩
theorem bytes_same (xs : List (BitVec 8)) (a1 : Option Addr) (len1 cap1 : Nat) (a2 : Option Addr) (len2 cap2 : Nat) (hl1 : xs.length = len1) (hl2 : xs.length = len2) (w : World) (hw : Gt w) (h1 : BytesAt w a1 xs) (h2 : BytesAt w a2 xs) :
    Calls Tryd.prog 10 [.slice a1 len1 cap1, .slice a2 len2 cap2].toArray w (fun e w' => e = .returned (.bool true) ∧ Grow w w') := by
  have hGF : BOk Gt (pl w) := gt_low.plain hw
  refine calls_of_X (G := Gt) Tryd.func10 rfl rfl (Hp (pl w) []) (hp_refl (pl w) trivial rides_true) (good_hp hGF) ?_
  refine xs_plain (E := EE []) ?_
  refine lx_assign rfl rfl rfl ?_
  refine lx_nil ?_
  refine xs_plain (E := EE []) ?_
  refine lx_move rfl rfl rfl ?_
  refine lx_convr rfl rfl (fun w' hw' => conv_str Tryd.underlying22 Tryd.underlying5 Tryd.underlying9 (h1.grow (hp_below hw')) _ _ hl1) rfl rfl ?_
  refine lx_move rfl rfl rfl ?_
  refine lx_convr rfl rfl (fun w' hw' => conv_str Tryd.underlying22 Tryd.underlying5 Tryd.underlying9 (h2.grow (hp_below hw')) _ _ hl2) rfl rfl ?_
  refine lx_bin (v := .bool true) rfl rfl (fun _ => rfl) (fun w => bin_eq_str _ _ w) rfl rfl ?_
  refine lx_assign rfl rfl rfl ?_
  refine lx_nil ?_
  refine x_ret ?_
  repeat (first | refine kseq_ret ?_ | refine kblk_ret ?_)
  exact kret_tmp rfl rfl (fun w hw => ⟨rfl, hp_below hw⟩)
def IsM (w : World) (v : Value) : Prop := ∃ bm, v = .pointer (some ⟨bm, 0, none⟩) ∧ OwnB w bm (Sh.MK.map U32) 64
theorem newc (w : World) (hw : Gt w) : Calls Tryd.prog 9 [].toArray w (fun e w' => ∃ v, e = .returned v ∧ Grow w w' ∧ IsM w' v) := (Sh.new_calls w hw).mono fun _ _ ⟨bm, he, hg, _, ho⟩ => ⟨_, he, hg, bm, rfl, ho⟩
/-- What the program's Expand is asked for. -/
def PXC : Prop := ∀ (a1 : Option Addr) (cap1 : Nat) (msg : List (BitVec 8)) (a2 : Option Addr) (cap2 : Nat) (dst : List (BitVec 8)) (z : Int) (w : World), msg.length ≤ 100000 → msg.length ≤ cap1 → dst.length ≤ 100000 → dst.length ≤ cap2 → Gt w → BytesAt w a1 msg → BytesAt w a2 dst → Calls Tryd.prog 7 [.slice a1 msg.length cap1, .slice a2 dst.length cap2, I z].toArray w (fun e w' => ∃ v, e = .returned v ∧ Grow w w' ∧ RT msg dst z w' v)
theorem ex_b0 (hK : ∀ w, Gt w → Calls Tryd.prog 6 [].toArray w (fun e w' => e = .returned (.bool true) ∧ Grow w w')) (a1 : Option Addr) (cap1 : Nat) (msg : List (BitVec 8)) (a2 : Option Addr) (cap2 : Nat) (dst : List (BitVec 8)) (z : Int) (h0 : 2000 < msg.length) (w : World) (hw : Gt w) : Calls Tryd.prog 3 [.slice a1 msg.length cap1, .slice a2 dst.length cap2, I z].toArray w (fun e w' => e = .returned (.bool true) ∧ Grow w w') := by
  have hGF : BOk Gt (pl w) := gt_low.plain hw
  have hgw : Grow w w := Grow.refl w
  refine calls_of_X (G := Gt) Tryd.func3 rfl rfl (Hp (pl w) []) (hp_refl (pl w) trivial rides_true) (good_hp hGF) ?_
  refine xs_plain (E := EE [7, 9, 8]) ?_
  refine lx_assign rfl rfl rfl ?_
  refine lx_nil ?_
  refine x_seq ?_
  refine xs_plain (E := EE [7, 9, 8]) ?_
  refine lx_callC rfl rfl ent6 (fun w' hC hG => hK w' hG) rfl rfl ?_
  refine lx_un rfl (fun _ => un_not _) rfl rfl ?_
  refine lx_nil ?_
  refine x_false rfl ?_
  refine x_skip ?_
  refine x_seq ?_
  refine xs_plain (E := EE [7, 9, 8]) ?_
  refine lx_move rfl rfl rfl ?_
  refine lx_len rfl (fun _ => len_slice Tryd.underlying22 _ _ _ _) rfl rfl ?_
  refine lx_binB true rfl rfl (fun _ => rfl) (fun _ => bin_gtr_i _ _ _) (decide_eq_true (by omega)) rfl rfl ?_
  refine lx_move rfl rfl rfl ?_
  refine lx_skip rfl rfl rfl ?_
  refine lx_skip rfl rfl rfl ?_
  refine lx_skip rfl rfl rfl ?_
  refine lx_pick rfl rfl rfl rfl rfl ?_
  refine lx_nil ?_
  refine x_true rfl ?_
  refine xs_plain (E := EE [7, 9, 8]) ?_
  refine lx_assign rfl rfl rfl ?_
  refine lx_nil ?_
  refine x_ret ?_
  repeat (first | refine kseq_ret ?_ | refine kblk_ret ?_)
  exact kret_tmp rfl rfl (fun w hw => ⟨rfl, hgw.trans (hp_below hw)⟩)
theorem ex_b1 (hK : ∀ w, Gt w → Calls Tryd.prog 6 [].toArray w (fun e w' => e = .returned (.bool true) ∧ Grow w w')) (a1 : Option Addr) (cap1 : Nat) (msg : List (BitVec 8)) (a2 : Option Addr) (cap2 : Nat) (dst : List (BitVec 8)) (z : Int) (h0 : ¬ 2000 < msg.length) (h1 : 600 < dst.length) (w : World) (hw : Gt w) : Calls Tryd.prog 3 [.slice a1 msg.length cap1, .slice a2 dst.length cap2, I z].toArray w (fun e w' => e = .returned (.bool true) ∧ Grow w w') := by
  have hGF : BOk Gt (pl w) := gt_low.plain hw
  have hgw : Grow w w := Grow.refl w
  refine calls_of_X (G := Gt) Tryd.func3 rfl rfl (Hp (pl w) []) (hp_refl (pl w) trivial rides_true) (good_hp hGF) ?_
  refine xs_plain (E := EE [7, 9, 8]) ?_
  refine lx_assign rfl rfl rfl ?_
  refine lx_nil ?_
  refine x_seq ?_
  refine xs_plain (E := EE [7, 9, 8]) ?_
  refine lx_callC rfl rfl ent6 (fun w' hC hG => hK w' hG) rfl rfl ?_
  refine lx_un rfl (fun _ => un_not _) rfl rfl ?_
  refine lx_nil ?_
  refine x_false rfl ?_
  refine x_skip ?_
  refine x_seq ?_
  refine xs_plain (E := EE [7, 9, 8]) ?_
  refine lx_move rfl rfl rfl ?_
  refine lx_len rfl (fun _ => len_slice Tryd.underlying22 _ _ _ _) rfl rfl ?_
  refine lx_binB false rfl rfl (fun _ => rfl) (fun _ => bin_gtr_i _ _ _) (decide_eq_false (by omega)) rfl rfl ?_
  refine lx_move rfl rfl rfl ?_
  refine lx_move rfl rfl rfl ?_
  refine lx_len rfl (fun _ => len_slice Tryd.underlying22 _ _ _ _) rfl rfl ?_
  refine lx_binB true rfl rfl (fun _ => rfl) (fun _ => bin_gtr_i _ _ _) (decide_eq_true (by omega)) rfl rfl ?_
  refine lx_pick rfl rfl rfl rfl rfl ?_
  refine lx_nil ?_
  refine x_true rfl ?_
  refine xs_plain (E := EE [7, 9, 8]) ?_
  refine lx_assign rfl rfl rfl ?_
  refine lx_nil ?_
  refine x_ret ?_
  repeat (first | refine kseq_ret ?_ | refine kblk_ret ?_)
  exact kret_tmp rfl rfl (fun w hw => ⟨rfl, hgw.trans (hp_below hw)⟩)
theorem ex_inb (hK : ∀ w, Gt w → Calls Tryd.prog 6 [].toArray w (fun e w' => e = .returned (.bool true) ∧ Grow w w')) (hP : PXC) (a1 : Option Addr) (cap1 : Nat) (msg : List (BitVec 8)) (a2 : Option Addr) (cap2 : Nat) (dst : List (BitVec 8)) (z : Int) (hc1 : msg.length ≤ cap1) (hc2 : dst.length ≤ cap2) (h0 : ¬ 2000 < msg.length) (h1 : ¬ 600 < dst.length) (h2 : 600 < z) (h3 : z ≤ 8160) (hbad : Bad msg dst (z.tmod 600 + 1)) (w : World) (hw : Gt w) (hb1 : BytesAt w a1 msg) (hb2 : BytesAt w a2 dst) : Calls Tryd.prog 3 [.slice a1 msg.length cap1, .slice a2 dst.length cap2, I z].toArray w (fun e w' => e = .returned (.bool true) ∧ Grow w w') := by
  have hGF : BOk Gt (pl w) := gt_low.plain hw
  have hgw : Grow w w := Grow.refl w
  have h5 : 0 ≤ z.tmod 600 := Int.tmod_nonneg _ (by omega)
  have h6 : z.tmod 600 < 600 := Int.tmod_lt_of_pos z (by decide)
  refine calls_of_X (G := Gt) Tryd.func3 rfl rfl (Hp (pl w) []) (hp_refl (pl w) trivial rides_true) (good_hp hGF) ?_
  refine xs_plain (E := EE [7, 9, 8]) ?_
  refine lx_assign rfl rfl rfl ?_
  refine lx_nil ?_
  refine x_seq ?_
  refine xs_plain (E := EE [7, 9, 8]) ?_
  refine lx_callC rfl rfl ent6 (fun w' hC hG => hK w' hG) rfl rfl ?_
  refine lx_un rfl (fun _ => un_not _) rfl rfl ?_
  refine lx_nil ?_
  refine x_false rfl ?_
  refine x_skip ?_
  refine x_seq ?_
  refine xs_plain (E := EE [7, 9, 8]) ?_
  refine lx_move rfl rfl rfl ?_
  refine lx_len rfl (fun _ => len_slice Tryd.underlying22 _ _ _ _) rfl rfl ?_
  refine lx_binB false rfl rfl (fun _ => rfl) (fun _ => bin_gtr_i _ _ _) (decide_eq_false (by omega)) rfl rfl ?_
  refine lx_move rfl rfl rfl ?_
  refine lx_move rfl rfl rfl ?_
  refine lx_len rfl (fun _ => len_slice Tryd.underlying22 _ _ _ _) rfl rfl ?_
  refine lx_binB false rfl rfl (fun _ => rfl) (fun _ => bin_gtr_i _ _ _) (decide_eq_false (by omega)) rfl rfl ?_
  refine lx_pick rfl rfl rfl rfl rfl ?_
  refine lx_nil ?_
  refine x_false rfl ?_
  refine x_skip ?_
  refine x_seq ?_
  refine xs_plain (E := EE [7, 9, 8]) ?_
  refine lx_move rfl rfl rfl ?_
  refine lx_binB true rfl rfl (fun _ => rfl) (fun _ => bin_gtr_i _ _ _) (decide_eq_true (by omega)) rfl rfl ?_
  refine lx_move rfl rfl rfl ?_
  refine lx_move rfl rfl rfl ?_
  refine lx_binB true rfl rfl (fun _ => rfl) (fun _ => bin_leq_i _ _ _) (decide_eq_true (by omega)) rfl rfl ?_
  refine lx_pick rfl rfl rfl rfl rfl ?_
  refine lx_nil ?_
  refine x_true rfl ?_
  refine x_plain (E := EE [7, 9, 8]) ?_
  refine lx_move rfl rfl rfl ?_
  refine lx_bin (v := I (z.tmod 600)) rfl rfl (fun _ => rfl) (fun _ => bin_rem_i _ _ _ (by decide)) rfl rfl ?_
  refine lx_bin (v := I (z.tmod 600 + 1)) rfl rfl (fun _ => rfl) (fun _ => bin_add_i _ _ _ (by unfold inI; omega)) rfl rfl ?_
  refine lx_assign rfl rfl rfl ?_
  refine lx_nil ?_
  refine xs_plain (E := EE [7, 9, 8]) ?_
  refine lx_move rfl rfl rfl ?_
  refine lx_move rfl rfl rfl ?_
  refine lx_move rfl rfl rfl ?_
  refine lx_callH rfl rfl ent7 rfl rfl gt_low (good_hp hGF) (fun w' hC hG => hP a1 cap1 msg a2 cap2 dst (z.tmod 600 + 1) w' (by omega) hc1 (by omega) hc2 hG (hb1.grow (hgw.trans (hp_below hC))) (hb2.grow (hgw.trans (hp_below hC)))) (fun w0 w1 v h0 hg hG1 hq => ?_)
  replace hgw := hgw.trans ((hp_below h0).trans hg)
  clear h0 hg hGF
  have hGF : BOk Gt (pl w1) := gt_low.plain hG1
  obtain rfl := hq.bad hbad
  have hgp : Grow w1 w1 := Grow.refl w1
  refine lx_move rfl rfl rfl ?_
  refine lx_ext rfl rfl rfl rfl ?_
  refine lx_ext rfl rfl rfl rfl ?_
  refine lx_assign rfl rfl rfl ?_
  refine lx_assign rfl rfl rfl ?_
  refine lx_nil ?_
  refine xs_plain (E := EE [7, 9, 8]) ?_
  refine lx_callH rfl rfl ent9 rfl rfl gt_low (good_hp hGF) (fun w' hC hG => newc w' hG) (fun w0 w1 v h0 hg hG1 hq => ?_)
  replace hgw := hgw.trans ((hp_below h0).trans hg)
  replace hgp := hgp.trans ((hp_below h0).trans hg)
  clear h0 hg hGF
  have hGF : BOk Gt (pl w1) := gt_low.plain hG1
  obtain ⟨bm, rfl, hom⟩ := hq
  refine lx_move rfl rfl rfl ?_
  refine lx_move rfl rfl rfl ?_
  refine lx_move rfl rfl rfl ?_
  refine lx_callH rfl rfl ent8 rfl rfl gt_low (good_hp hGF) (fun w' hC hG => rexpand bm a1 cap1 msg a2 cap2 dst (z.tmod 600 + 1) w' hG (own_grow hom (hp_below hC)) (hb1.grow (hgw.trans (hp_below hC))) (hb2.grow (hgw.trans (hp_below hC)))) (fun w0 w1 v h0 hg hG1 hq => ?_)
  replace hgw := hgw.trans ((hp_below h0).trans hg)
  replace hgp := hgp.trans ((hp_below h0).trans hg)
  clear h0 hg hGF
  have hGF : BOk Gt (pl w1) := gt_low.plain hG1
  obtain rfl := hq.bad hbad
  refine lx_move rfl rfl rfl ?_
  refine lx_ext rfl rfl rfl rfl ?_
  refine lx_ext rfl rfl rfl rfl ?_
  refine lx_assign rfl rfl rfl ?_
  refine lx_assign rfl rfl rfl ?_
  refine lx_nil ?_
  refine xs_plain (E := EE [7, 9, 8]) ?_
  refine lx_move rfl rfl rfl ?_
  refine lx_move rfl rfl rfl ?_
  refine lx_binB true rfl rfl (fun _ => rfl) (fun _ => bin_eql_i _ _ _) (rfl) rfl rfl ?_
  refine lx_move rfl rfl rfl ?_
  refine lx_move rfl rfl rfl ?_
  refine lx_move rfl rfl rfl ?_
  refine lx_callC rfl rfl ent10 (fun w' hC hG => bytes_same ([] : List (BitVec 8)) _ _ _ _ _ _ rfl rfl w' hG (fun j v hv => by simp at hv) (fun j v hv => by simp at hv)) rfl rfl ?_
  refine lx_pick rfl rfl rfl rfl rfl ?_
  refine lx_assign rfl rfl rfl ?_
  refine lx_nil ?_
  refine x_ret ?_
  repeat (first | refine kseq_ret ?_ | refine kblk_ret ?_)
  exact kret_tmp rfl rfl (fun w hw => ⟨rfl, hgw.trans (hp_below hw)⟩)
theorem ex_hib (hK : ∀ w, Gt w → Calls Tryd.prog 6 [].toArray w (fun e w' => e = .returned (.bool true) ∧ Grow w w')) (hP : PXC) (a1 : Option Addr) (cap1 : Nat) (msg : List (BitVec 8)) (a2 : Option Addr) (cap2 : Nat) (dst : List (BitVec 8)) (z : Int) (hc1 : msg.length ≤ cap1) (hc2 : dst.length ≤ cap2) (h0 : ¬ 2000 < msg.length) (h1 : ¬ 600 < dst.length) (h2 : 8160 < z) (hbad : Bad msg dst z) (w : World) (hw : Gt w) (hb1 : BytesAt w a1 msg) (hb2 : BytesAt w a2 dst) : Calls Tryd.prog 3 [.slice a1 msg.length cap1, .slice a2 dst.length cap2, I z].toArray w (fun e w' => e = .returned (.bool true) ∧ Grow w w') := by
  have hGF : BOk Gt (pl w) := gt_low.plain hw
  have hgw : Grow w w := Grow.refl w
  refine calls_of_X (G := Gt) Tryd.func3 rfl rfl (Hp (pl w) []) (hp_refl (pl w) trivial rides_true) (good_hp hGF) ?_
  refine xs_plain (E := EE [7, 9, 8]) ?_
  refine lx_assign rfl rfl rfl ?_
  refine lx_nil ?_
  refine x_seq ?_
  refine xs_plain (E := EE [7, 9, 8]) ?_
  refine lx_callC rfl rfl ent6 (fun w' hC hG => hK w' hG) rfl rfl ?_
  refine lx_un rfl (fun _ => un_not _) rfl rfl ?_
  refine lx_nil ?_
  refine x_false rfl ?_
  refine x_skip ?_
  refine x_seq ?_
  refine xs_plain (E := EE [7, 9, 8]) ?_
  refine lx_move rfl rfl rfl ?_
  refine lx_len rfl (fun _ => len_slice Tryd.underlying22 _ _ _ _) rfl rfl ?_
  refine lx_binB false rfl rfl (fun _ => rfl) (fun _ => bin_gtr_i _ _ _) (decide_eq_false (by omega)) rfl rfl ?_
  refine lx_move rfl rfl rfl ?_
  refine lx_move rfl rfl rfl ?_
  refine lx_len rfl (fun _ => len_slice Tryd.underlying22 _ _ _ _) rfl rfl ?_
  refine lx_binB false rfl rfl (fun _ => rfl) (fun _ => bin_gtr_i _ _ _) (decide_eq_false (by omega)) rfl rfl ?_
  refine lx_pick rfl rfl rfl rfl rfl ?_
  refine lx_nil ?_
  refine x_false rfl ?_
  refine x_skip ?_
  refine x_seq ?_
  refine xs_plain (E := EE [7, 9, 8]) ?_
  refine lx_move rfl rfl rfl ?_
  refine lx_binB true rfl rfl (fun _ => rfl) (fun _ => bin_gtr_i _ _ _) (decide_eq_true (by omega)) rfl rfl ?_
  refine lx_move rfl rfl rfl ?_
  refine lx_move rfl rfl rfl ?_
  refine lx_binB false rfl rfl (fun _ => rfl) (fun _ => bin_leq_i _ _ _) (decide_eq_false (by omega)) rfl rfl ?_
  refine lx_pick rfl rfl rfl rfl rfl ?_
  refine lx_nil ?_
  refine x_false rfl ?_
  refine x_skip ?_
  refine xs_plain (E := EE [7, 9, 8]) ?_
  refine lx_move rfl rfl rfl ?_
  refine lx_move rfl rfl rfl ?_
  refine lx_move rfl rfl rfl ?_
  refine lx_callH rfl rfl ent7 rfl rfl gt_low (good_hp hGF) (fun w' hC hG => hP a1 cap1 msg a2 cap2 dst z w' (by omega) hc1 (by omega) hc2 hG (hb1.grow (hgw.trans (hp_below hC))) (hb2.grow (hgw.trans (hp_below hC)))) (fun w0 w1 v h0 hg hG1 hq => ?_)
  replace hgw := hgw.trans ((hp_below h0).trans hg)
  clear h0 hg hGF
  have hGF : BOk Gt (pl w1) := gt_low.plain hG1
  obtain rfl := hq.bad hbad
  have hgp : Grow w1 w1 := Grow.refl w1
  refine lx_move rfl rfl rfl ?_
  refine lx_ext rfl rfl rfl rfl ?_
  refine lx_ext rfl rfl rfl rfl ?_
  refine lx_assign rfl rfl rfl ?_
  refine lx_assign rfl rfl rfl ?_
  refine lx_nil ?_
  refine xs_plain (E := EE [7, 9, 8]) ?_
  refine lx_callH rfl rfl ent9 rfl rfl gt_low (good_hp hGF) (fun w' hC hG => newc w' hG) (fun w0 w1 v h0 hg hG1 hq => ?_)
  replace hgw := hgw.trans ((hp_below h0).trans hg)
  replace hgp := hgp.trans ((hp_below h0).trans hg)
  clear h0 hg hGF
  have hGF : BOk Gt (pl w1) := gt_low.plain hG1
  obtain ⟨bm, rfl, hom⟩ := hq
  refine lx_move rfl rfl rfl ?_
  refine lx_move rfl rfl rfl ?_
  refine lx_move rfl rfl rfl ?_
  refine lx_callH rfl rfl ent8 rfl rfl gt_low (good_hp hGF) (fun w' hC hG => rexpand bm a1 cap1 msg a2 cap2 dst z w' hG (own_grow hom (hp_below hC)) (hb1.grow (hgw.trans (hp_below hC))) (hb2.grow (hgw.trans (hp_below hC)))) (fun w0 w1 v h0 hg hG1 hq => ?_)
  replace hgw := hgw.trans ((hp_below h0).trans hg)
  replace hgp := hgp.trans ((hp_below h0).trans hg)
  clear h0 hg hGF
  have hGF : BOk Gt (pl w1) := gt_low.plain hG1
  obtain rfl := hq.bad hbad
  refine lx_move rfl rfl rfl ?_
  refine lx_ext rfl rfl rfl rfl ?_
  refine lx_ext rfl rfl rfl rfl ?_
  refine lx_assign rfl rfl rfl ?_
  refine lx_assign rfl rfl rfl ?_
  refine lx_nil ?_
  refine xs_plain (E := EE [7, 9, 8]) ?_
  refine lx_move rfl rfl rfl ?_
  refine lx_move rfl rfl rfl ?_
  refine lx_binB true rfl rfl (fun _ => rfl) (fun _ => bin_eql_i _ _ _) (rfl) rfl rfl ?_
  refine lx_move rfl rfl rfl ?_
  refine lx_move rfl rfl rfl ?_
  refine lx_move rfl rfl rfl ?_
  refine lx_callC rfl rfl ent10 (fun w' hC hG => bytes_same ([] : List (BitVec 8)) _ _ _ _ _ _ rfl rfl w' hG (fun j v hv => by simp at hv) (fun j v hv => by simp at hv)) rfl rfl ?_
  refine lx_pick rfl rfl rfl rfl rfl ?_
  refine lx_assign rfl rfl rfl ?_
  refine lx_nil ?_
  refine x_ret ?_
  repeat (first | refine kseq_ret ?_ | refine kblk_ret ?_)
  exact kret_tmp rfl rfl (fun w hw => ⟨rfl, hgw.trans (hp_below hw)⟩)
theorem ex_lob (hK : ∀ w, Gt w → Calls Tryd.prog 6 [].toArray w (fun e w' => e = .returned (.bool true) ∧ Grow w w')) (hP : PXC) (a1 : Option Addr) (cap1 : Nat) (msg : List (BitVec 8)) (a2 : Option Addr) (cap2 : Nat) (dst : List (BitVec 8)) (z : Int) (hc1 : msg.length ≤ cap1) (hc2 : dst.length ≤ cap2) (h0 : ¬ 2000 < msg.length) (h1 : ¬ 600 < dst.length) (h2 : ¬ 600 < z) (hbad : Bad msg dst z) (w : World) (hw : Gt w) (hb1 : BytesAt w a1 msg) (hb2 : BytesAt w a2 dst) : Calls Tryd.prog 3 [.slice a1 msg.length cap1, .slice a2 dst.length cap2, I z].toArray w (fun e w' => e = .returned (.bool true) ∧ Grow w w') := by
  have hGF : BOk Gt (pl w) := gt_low.plain hw
  have hgw : Grow w w := Grow.refl w
  refine calls_of_X (G := Gt) Tryd.func3 rfl rfl (Hp (pl w) []) (hp_refl (pl w) trivial rides_true) (good_hp hGF) ?_
  refine xs_plain (E := EE [7, 9, 8]) ?_
  refine lx_assign rfl rfl rfl ?_
  refine lx_nil ?_
  refine x_seq ?_
  refine xs_plain (E := EE [7, 9, 8]) ?_
  refine lx_callC rfl rfl ent6 (fun w' hC hG => hK w' hG) rfl rfl ?_
  refine lx_un rfl (fun _ => un_not _) rfl rfl ?_
  refine lx_nil ?_
  refine x_false rfl ?_
  refine x_skip ?_
  refine x_seq ?_
  refine xs_plain (E := EE [7, 9, 8]) ?_
  refine lx_move rfl rfl rfl ?_
  refine lx_len rfl (fun _ => len_slice Tryd.underlying22 _ _ _ _) rfl rfl ?_
  refine lx_binB false rfl rfl (fun _ => rfl) (fun _ => bin_gtr_i _ _ _) (decide_eq_false (by omega)) rfl rfl ?_
  refine lx_move rfl rfl rfl ?_
  refine lx_move rfl rfl rfl ?_
  refine lx_len rfl (fun _ => len_slice Tryd.underlying22 _ _ _ _) rfl rfl ?_
  refine lx_binB false rfl rfl (fun _ => rfl) (fun _ => bin_gtr_i _ _ _) (decide_eq_false (by omega)) rfl rfl ?_
  refine lx_pick rfl rfl rfl rfl rfl ?_
  refine lx_nil ?_
  refine x_false rfl ?_
  refine x_skip ?_
  refine x_seq ?_
  refine xs_plain (E := EE [7, 9, 8]) ?_
  refine lx_move rfl rfl rfl ?_
  refine lx_binB false rfl rfl (fun _ => rfl) (fun _ => bin_gtr_i _ _ _) (decide_eq_false (by omega)) rfl rfl ?_
  refine lx_move rfl rfl rfl ?_
  refine lx_skip rfl rfl rfl ?_
  refine lx_skip rfl rfl rfl ?_
  refine lx_pick rfl rfl rfl rfl rfl ?_
  refine lx_nil ?_
  refine x_false rfl ?_
  refine x_skip ?_
  refine xs_plain (E := EE [7, 9, 8]) ?_
  refine lx_move rfl rfl rfl ?_
  refine lx_move rfl rfl rfl ?_
  refine lx_move rfl rfl rfl ?_
  refine lx_callH rfl rfl ent7 rfl rfl gt_low (good_hp hGF) (fun w' hC hG => hP a1 cap1 msg a2 cap2 dst z w' (by omega) hc1 (by omega) hc2 hG (hb1.grow (hgw.trans (hp_below hC))) (hb2.grow (hgw.trans (hp_below hC)))) (fun w0 w1 v h0 hg hG1 hq => ?_)
  replace hgw := hgw.trans ((hp_below h0).trans hg)
  clear h0 hg hGF
  have hGF : BOk Gt (pl w1) := gt_low.plain hG1
  obtain rfl := hq.bad hbad
  have hgp : Grow w1 w1 := Grow.refl w1
  refine lx_move rfl rfl rfl ?_
  refine lx_ext rfl rfl rfl rfl ?_
  refine lx_ext rfl rfl rfl rfl ?_
  refine lx_assign rfl rfl rfl ?_
  refine lx_assign rfl rfl rfl ?_
  refine lx_nil ?_
  refine xs_plain (E := EE [7, 9, 8]) ?_
  refine lx_callH rfl rfl ent9 rfl rfl gt_low (good_hp hGF) (fun w' hC hG => newc w' hG) (fun w0 w1 v h0 hg hG1 hq => ?_)
  replace hgw := hgw.trans ((hp_below h0).trans hg)
  replace hgp := hgp.trans ((hp_below h0).trans hg)
  clear h0 hg hGF
  have hGF : BOk Gt (pl w1) := gt_low.plain hG1
  obtain ⟨bm, rfl, hom⟩ := hq
  refine lx_move rfl rfl rfl ?_
  refine lx_move rfl rfl rfl ?_
  refine lx_move rfl rfl rfl ?_
  refine lx_callH rfl rfl ent8 rfl rfl gt_low (good_hp hGF) (fun w' hC hG => rexpand bm a1 cap1 msg a2 cap2 dst z w' hG (own_grow hom (hp_below hC)) (hb1.grow (hgw.trans (hp_below hC))) (hb2.grow (hgw.trans (hp_below hC)))) (fun w0 w1 v h0 hg hG1 hq => ?_)
  replace hgw := hgw.trans ((hp_below h0).trans hg)
  replace hgp := hgp.trans ((hp_below h0).trans hg)
  clear h0 hg hGF
  have hGF : BOk Gt (pl w1) := gt_low.plain hG1
  obtain rfl := hq.bad hbad
  refine lx_move rfl rfl rfl ?_
  refine lx_ext rfl rfl rfl rfl ?_
  refine lx_ext rfl rfl rfl rfl ?_
  refine lx_assign rfl rfl rfl ?_
  refine lx_assign rfl rfl rfl ?_
  refine lx_nil ?_
  refine xs_plain (E := EE [7, 9, 8]) ?_
  refine lx_move rfl rfl rfl ?_
  refine lx_move rfl rfl rfl ?_
  refine lx_binB true rfl rfl (fun _ => rfl) (fun _ => bin_eql_i _ _ _) (rfl) rfl rfl ?_
  refine lx_move rfl rfl rfl ?_
  refine lx_move rfl rfl rfl ?_
  refine lx_move rfl rfl rfl ?_
  refine lx_callC rfl rfl ent10 (fun w' hC hG => bytes_same ([] : List (BitVec 8)) _ _ _ _ _ _ rfl rfl w' hG (fun j v hv => by simp at hv) (fun j v hv => by simp at hv)) rfl rfl ?_
  refine lx_pick rfl rfl rfl rfl rfl ?_
  refine lx_assign rfl rfl rfl ?_
  refine lx_nil ?_
  refine x_ret ?_
  repeat (first | refine kseq_ret ?_ | refine kblk_ret ?_)
  exact kret_tmp rfl rfl (fun w hw => ⟨rfl, hgw.trans (hp_below hw)⟩)
theorem ex_ink (hK : ∀ w, Gt w → Calls Tryd.prog 6 [].toArray w (fun e w' => e = .returned (.bool true) ∧ Grow w w')) (hP : PXC) (a1 : Option Addr) (cap1 : Nat) (msg : List (BitVec 8)) (a2 : Option Addr) (cap2 : Nat) (dst : List (BitVec 8)) (z : Int) (hc1 : msg.length ≤ cap1) (hc2 : dst.length ≤ cap2) (h0 : ¬ 2000 < msg.length) (h1 : ¬ 600 < dst.length) (h2 : 600 < z) (h3 : z ≤ 8160) (hbad : ¬ Bad msg dst (z.tmod 600 + 1)) (w : World) (hw : Gt w) (hb1 : BytesAt w a1 msg) (hb2 : BytesAt w a2 dst) : Calls Tryd.prog 3 [.slice a1 msg.length cap1, .slice a2 dst.length cap2, I z].toArray w (fun e w' => e = .returned (.bool true) ∧ Grow w w') := by
  have hGF : BOk Gt (pl w) := gt_low.plain hw
  have hgw : Grow w w := Grow.refl w
  have h5 : 0 ≤ z.tmod 600 := Int.tmod_nonneg _ (by omega)
  have h6 : z.tmod 600 < 600 := Int.tmod_lt_of_pos z (by decide)
  refine calls_of_X (G := Gt) Tryd.func3 rfl rfl (Hp (pl w) []) (hp_refl (pl w) trivial rides_true) (good_hp hGF) ?_
  refine xs_plain (E := EE [7, 9, 8]) ?_
  refine lx_assign rfl rfl rfl ?_
  refine lx_nil ?_
  refine x_seq ?_
  refine xs_plain (E := EE [7, 9, 8]) ?_
  refine lx_callC rfl rfl ent6 (fun w' hC hG => hK w' hG) rfl rfl ?_
  refine lx_un rfl (fun _ => un_not _) rfl rfl ?_
  refine lx_nil ?_
  refine x_false rfl ?_
  refine x_skip ?_
  refine x_seq ?_
  refine xs_plain (E := EE [7, 9, 8]) ?_
  refine lx_move rfl rfl rfl ?_
  refine lx_len rfl (fun _ => len_slice Tryd.underlying22 _ _ _ _) rfl rfl ?_
  refine lx_binB false rfl rfl (fun _ => rfl) (fun _ => bin_gtr_i _ _ _) (decide_eq_false (by omega)) rfl rfl ?_
  refine lx_move rfl rfl rfl ?_
  refine lx_move rfl rfl rfl ?_
  refine lx_len rfl (fun _ => len_slice Tryd.underlying22 _ _ _ _) rfl rfl ?_
  refine lx_binB false rfl rfl (fun _ => rfl) (fun _ => bin_gtr_i _ _ _) (decide_eq_false (by omega)) rfl rfl ?_
  refine lx_pick rfl rfl rfl rfl rfl ?_
  refine lx_nil ?_
  refine x_false rfl ?_
  refine x_skip ?_
  refine x_seq ?_
  refine xs_plain (E := EE [7, 9, 8]) ?_
  refine lx_move rfl rfl rfl ?_
  refine lx_binB true rfl rfl (fun _ => rfl) (fun _ => bin_gtr_i _ _ _) (decide_eq_true (by omega)) rfl rfl ?_
  refine lx_move rfl rfl rfl ?_
  refine lx_move rfl rfl rfl ?_
  refine lx_binB true rfl rfl (fun _ => rfl) (fun _ => bin_leq_i _ _ _) (decide_eq_true (by omega)) rfl rfl ?_
  refine lx_pick rfl rfl rfl rfl rfl ?_
  refine lx_nil ?_
  refine x_true rfl ?_
  refine x_plain (E := EE [7, 9, 8]) ?_
  refine lx_move rfl rfl rfl ?_
  refine lx_bin (v := I (z.tmod 600)) rfl rfl (fun _ => rfl) (fun _ => bin_rem_i _ _ _ (by decide)) rfl rfl ?_
  refine lx_bin (v := I (z.tmod 600 + 1)) rfl rfl (fun _ => rfl) (fun _ => bin_add_i _ _ _ (by unfold inI; omega)) rfl rfl ?_
  refine lx_assign rfl rfl rfl ?_
  refine lx_nil ?_
  refine xs_plain (E := EE [7, 9, 8]) ?_
  refine lx_move rfl rfl rfl ?_
  refine lx_move rfl rfl rfl ?_
  refine lx_move rfl rfl rfl ?_
  refine lx_callH rfl rfl ent7 rfl rfl gt_low (good_hp hGF) (fun w' hC hG => hP a1 cap1 msg a2 cap2 dst (z.tmod 600 + 1) w' (by omega) hc1 (by omega) hc2 hG (hb1.grow (hgw.trans (hp_below hC))) (hb2.grow (hgw.trans (hp_below hC)))) (fun w0 w1 v h0 hg hG1 hq => ?_)
  replace hgw := hgw.trans ((hp_below h0).trans hg)
  clear h0 hg hGF
  have hGF : BOk Gt (pl w1) := gt_low.plain hG1
  obtain ⟨x1, c1, rfl, hx1, _⟩ := hq.ok hbad
  have hgp : Grow w1 w1 := Grow.refl w1
  refine lx_move rfl rfl rfl ?_
  refine lx_ext rfl rfl rfl rfl ?_
  refine lx_ext rfl rfl rfl rfl ?_
  refine lx_assign rfl rfl rfl ?_
  refine lx_assign rfl rfl rfl ?_
  refine lx_nil ?_
  refine xs_plain (E := EE [7, 9, 8]) ?_
  refine lx_callH rfl rfl ent9 rfl rfl gt_low (good_hp hGF) (fun w' hC hG => newc w' hG) (fun w0 w1 v h0 hg hG1 hq => ?_)
  replace hgw := hgw.trans ((hp_below h0).trans hg)
  replace hgp := hgp.trans ((hp_below h0).trans hg)
  clear h0 hg hGF
  have hGF : BOk Gt (pl w1) := gt_low.plain hG1
  obtain ⟨bm, rfl, hom⟩ := hq
  refine lx_move rfl rfl rfl ?_
  refine lx_move rfl rfl rfl ?_
  refine lx_move rfl rfl rfl ?_
  refine lx_callH rfl rfl ent8 rfl rfl gt_low (good_hp hGF) (fun w' hC hG => rexpand bm a1 cap1 msg a2 cap2 dst (z.tmod 600 + 1) w' hG (own_grow hom (hp_below hC)) (hb1.grow (hgw.trans (hp_below hC))) (hb2.grow (hgw.trans (hp_below hC)))) (fun w0 w1 v h0 hg hG1 hq => ?_)
  replace hgw := hgw.trans ((hp_below h0).trans hg)
  replace hgp := hgp.trans ((hp_below h0).trans hg)
  clear h0 hg hGF
  have hGF : BOk Gt (pl w1) := gt_low.plain hG1
  obtain ⟨x2, c2, rfl, hx2, _⟩ := hq.ok hbad
  refine lx_move rfl rfl rfl ?_
  refine lx_ext rfl rfl rfl rfl ?_
  refine lx_ext rfl rfl rfl rfl ?_
  refine lx_assign rfl rfl rfl ?_
  refine lx_assign rfl rfl rfl ?_
  refine lx_nil ?_
  refine xs_plain (E := EE [7, 9, 8]) ?_
  refine lx_move rfl rfl rfl ?_
  refine lx_move rfl rfl rfl ?_
  refine lx_binB true rfl rfl (fun _ => rfl) (fun _ => bin_eql_i _ _ _) (rfl) rfl rfl ?_
  refine lx_move rfl rfl rfl ?_
  refine lx_move rfl rfl rfl ?_
  refine lx_move rfl rfl rfl ?_
  refine lx_callC rfl rfl ent10 (fun w' hC hG => bytes_same (E msg dst (z.tmod 600 + 1).toNat) _ _ _ _ _ _ rfl rfl w' hG (hx1.grow (hgp.trans (hp_below hC))) (hx2.grow (hp_below hC))) rfl rfl ?_
  refine lx_pick rfl rfl rfl rfl rfl ?_
  refine lx_assign rfl rfl rfl ?_
  refine lx_nil ?_
  refine x_ret ?_
  repeat (first | refine kseq_ret ?_ | refine kblk_ret ?_)
  exact kret_tmp rfl rfl (fun w hw => ⟨rfl, hgw.trans (hp_below hw)⟩)
theorem ex_lok (hK : ∀ w, Gt w → Calls Tryd.prog 6 [].toArray w (fun e w' => e = .returned (.bool true) ∧ Grow w w')) (hP : PXC) (a1 : Option Addr) (cap1 : Nat) (msg : List (BitVec 8)) (a2 : Option Addr) (cap2 : Nat) (dst : List (BitVec 8)) (z : Int) (hc1 : msg.length ≤ cap1) (hc2 : dst.length ≤ cap2) (h0 : ¬ 2000 < msg.length) (h1 : ¬ 600 < dst.length) (h2 : ¬ 600 < z) (hbad : ¬ Bad msg dst z) (w : World) (hw : Gt w) (hb1 : BytesAt w a1 msg) (hb2 : BytesAt w a2 dst) : Calls Tryd.prog 3 [.slice a1 msg.length cap1, .slice a2 dst.length cap2, I z].toArray w (fun e w' => e = .returned (.bool true) ∧ Grow w w') := by
  have hGF : BOk Gt (pl w) := gt_low.plain hw
  have hgw : Grow w w := Grow.refl w
  refine calls_of_X (G := Gt) Tryd.func3 rfl rfl (Hp (pl w) []) (hp_refl (pl w) trivial rides_true) (good_hp hGF) ?_
  refine xs_plain (E := EE [7, 9, 8]) ?_
  refine lx_assign rfl rfl rfl ?_
  refine lx_nil ?_
  refine x_seq ?_
  refine xs_plain (E := EE [7, 9, 8]) ?_
  refine lx_callC rfl rfl ent6 (fun w' hC hG => hK w' hG) rfl rfl ?_
  refine lx_un rfl (fun _ => un_not _) rfl rfl ?_
  refine lx_nil ?_
  refine x_false rfl ?_
  refine x_skip ?_
  refine x_seq ?_
  refine xs_plain (E := EE [7, 9, 8]) ?_
  refine lx_move rfl rfl rfl ?_
  refine lx_len rfl (fun _ => len_slice Tryd.underlying22 _ _ _ _) rfl rfl ?_
  refine lx_binB false rfl rfl (fun _ => rfl) (fun _ => bin_gtr_i _ _ _) (decide_eq_false (by omega)) rfl rfl ?_
  refine lx_move rfl rfl rfl ?_
  refine lx_move rfl rfl rfl ?_
  refine lx_len rfl (fun _ => len_slice Tryd.underlying22 _ _ _ _) rfl rfl ?_
  refine lx_binB false rfl rfl (fun _ => rfl) (fun _ => bin_gtr_i _ _ _) (decide_eq_false (by omega)) rfl rfl ?_
  refine lx_pick rfl rfl rfl rfl rfl ?_
  refine lx_nil ?_
  refine x_false rfl ?_
  refine x_skip ?_
  refine x_seq ?_
  refine xs_plain (E := EE [7, 9, 8]) ?_
  refine lx_move rfl rfl rfl ?_
  refine lx_binB false rfl rfl (fun _ => rfl) (fun _ => bin_gtr_i _ _ _) (decide_eq_false (by omega)) rfl rfl ?_
  refine lx_move rfl rfl rfl ?_
  refine lx_skip rfl rfl rfl ?_
  refine lx_skip rfl rfl rfl ?_
  refine lx_pick rfl rfl rfl rfl rfl ?_
  refine lx_nil ?_
  refine x_false rfl ?_
  refine x_skip ?_
  refine xs_plain (E := EE [7, 9, 8]) ?_
  refine lx_move rfl rfl rfl ?_
  refine lx_move rfl rfl rfl ?_
  refine lx_move rfl rfl rfl ?_
  refine lx_callH rfl rfl ent7 rfl rfl gt_low (good_hp hGF) (fun w' hC hG => hP a1 cap1 msg a2 cap2 dst z w' (by omega) hc1 (by omega) hc2 hG (hb1.grow (hgw.trans (hp_below hC))) (hb2.grow (hgw.trans (hp_below hC)))) (fun w0 w1 v h0 hg hG1 hq => ?_)
  replace hgw := hgw.trans ((hp_below h0).trans hg)
  clear h0 hg hGF
  have hGF : BOk Gt (pl w1) := gt_low.plain hG1
  obtain ⟨x1, c1, rfl, hx1, _⟩ := hq.ok hbad
  have hgp : Grow w1 w1 := Grow.refl w1
  refine lx_move rfl rfl rfl ?_
  refine lx_ext rfl rfl rfl rfl ?_
  refine lx_ext rfl rfl rfl rfl ?_
  refine lx_assign rfl rfl rfl ?_
  refine lx_assign rfl rfl rfl ?_
  refine lx_nil ?_
  refine xs_plain (E := EE [7, 9, 8]) ?_
  refine lx_callH rfl rfl ent9 rfl rfl gt_low (good_hp hGF) (fun w' hC hG => newc w' hG) (fun w0 w1 v h0 hg hG1 hq => ?_)
  replace hgw := hgw.trans ((hp_below h0).trans hg)
  replace hgp := hgp.trans ((hp_below h0).trans hg)
  clear h0 hg hGF
  have hGF : BOk Gt (pl w1) := gt_low.plain hG1
  obtain ⟨bm, rfl, hom⟩ := hq
  refine lx_move rfl rfl rfl ?_
  refine lx_move rfl rfl rfl ?_
  refine lx_move rfl rfl rfl ?_
  refine lx_callH rfl rfl ent8 rfl rfl gt_low (good_hp hGF) (fun w' hC hG => rexpand bm a1 cap1 msg a2 cap2 dst z w' hG (own_grow hom (hp_below hC)) (hb1.grow (hgw.trans (hp_below hC))) (hb2.grow (hgw.trans (hp_below hC)))) (fun w0 w1 v h0 hg hG1 hq => ?_)
  replace hgw := hgw.trans ((hp_below h0).trans hg)
  replace hgp := hgp.trans ((hp_below h0).trans hg)
  clear h0 hg hGF
  have hGF : BOk Gt (pl w1) := gt_low.plain hG1
  obtain ⟨x2, c2, rfl, hx2, _⟩ := hq.ok hbad
  refine lx_move rfl rfl rfl ?_
  refine lx_ext rfl rfl rfl rfl ?_
  refine lx_ext rfl rfl rfl rfl ?_
  refine lx_assign rfl rfl rfl ?_
  refine lx_assign rfl rfl rfl ?_
  refine lx_nil ?_
  refine xs_plain (E := EE [7, 9, 8]) ?_
  refine lx_move rfl rfl rfl ?_
  refine lx_move rfl rfl rfl ?_
  refine lx_binB true rfl rfl (fun _ => rfl) (fun _ => bin_eql_i _ _ _) (rfl) rfl rfl ?_
  refine lx_move rfl rfl rfl ?_
  refine lx_move rfl rfl rfl ?_
  refine lx_move rfl rfl rfl ?_
  refine lx_callC rfl rfl ent10 (fun w' hC hG => bytes_same (E msg dst z.toNat) _ _ _ _ _ _ rfl rfl w' hG (hx1.grow (hgp.trans (hp_below hC))) (hx2.grow (hp_below hC))) rfl rfl ?_
  refine lx_pick rfl rfl rfl rfl rfl ?_
  refine lx_assign rfl rfl rfl ?_
  refine lx_nil ?_
  refine x_ret ?_
  repeat (first | refine kseq_ret ?_ | refine kblk_ret ?_)
  exact kret_tmp rfl rfl (fun w hw => ⟨rfl, hgw.trans (hp_below hw)⟩)
end Xm
end Go.Proofs.YtlimfhjjadbjgaaDoor
