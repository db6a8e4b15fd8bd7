/-
  Roots; the document's pairs, noughts and depths.
-/
import Derived.Test.YtdkkipjcmflclaaDoorX3
import Derived.Test.YtdkkipjcmflclaaDoorMT
import Derived.Test.YtdkkipjcmflclaaDoorM1
namespace Go.Proofs.YtdkkipjcmflclaaDoor
open Go.RowKit
set_option maxRecDepth 100000
set_option maxHeartbeats 1000000

open Sh
theorem ent6 : Enters Tryd.prog 6 := fun _ _ => by kernel_rfl
theorem ent36 : Enters Tryd.prog 36 := fun _ _ => by kernel_rfl
theorem ent26 : Enters Tryd.prog 26 := fun _ _ => by kernel_rfl
theorem ent27 : Enters Tryd.prog 27 := fun _ _ => by kernel_rfl
theorem ti5 : TI Tryd.prog 5 (.int .u8 0) 1 1 := ti_mk (by kernel_rfl)
abbrev Rt := List (BitVec 8)
def Z0 : Rt := List.replicate 32 0#8
theorem Z0_len : Z0.length = 32 := rfl
def P2 (x y : Rt) : Rt := SHA (x ++ y)
theorem P2_len (x y : Rt) : (P2 x y).length = 32 := SHA_len _
theorem zr_len : ∀ d, (zrT P2 Z0 d).length = 32
  | 0 => rfl
  | _ + 1 => P2_len _ _
def AllR (l : List Rt) : Prop := ∀ r ∈ l, r.length = 32
theorem tre_len {l : List Rt} (hl : AllR l) : ∀ d, (tre P2 Z0 d l).length = 32
  | 0 => by
    cases l with
    | nil => rfl
    | cons x r => exact hl x (List.mem_cons_self ..)
  | _ + 1 => P2_len _ _
theorem AllR.take {l : List Rt} (h : AllR l) (n : Nat) : AllR (l.take n) := fun r hr => h r (List.mem_of_mem_take hr)
theorem AllR.drop {l : List Rt} (h : AllR l) (n : Nat) : AllR (l.drop n) := fun r hr => h r (List.mem_of_mem_drop hr)
/-- Roots one behind the other, wherever they lie. -/
def RtsAt (w : World) (a : Option Addr) (l : List Rt) : Prop := ∀ i r, l[i]? = some r → ∃ ad, a = some ad ∧ ∀ j v, (r.map U8)[j]? = some v → w.cell? ((ad.add (i * 32)).add j) = some v
theorem RtsAt.grow {w w' : World} {a : Option Addr} {l : List Rt} (h : RtsAt w a l) (hg : Grow w w') : RtsAt w' a l := fun i r hr => by
  obtain ⟨ad, e, h1⟩ := h i r hr
  exact ⟨ad, e, fun j v hv => (hg.cell (block_lt_of_cell (h1 j v hv))).trans (h1 j v hv)⟩
theorem RtsAt.take {w : World} {a : Option Addr} {l : List Rt} (h : RtsAt w a l) (n : Nat) : RtsAt w a (l.take n) := fun i r hr => by
  rw [List.getElem?_take] at hr
  split at hr
  · exact h i r hr
  · cases hr
def cutR (a : Option Addr) (c m : Nat) : Option Addr := if c = m then a else a.map (·.add (m * 32))
theorem add_addR (ad : Addr) (m n : Nat) : (ad.add m).add n = ad.add (m + n) := by
  unfold Addr.add
  by_cases h1 : m = 0
  · subst h1; simp
  · by_cases h2 : n = 0
    · subst h2; simp
    · have h3 : ¬ m + n = 0 := by omega
      simp [h1, h2]; omega
theorem RtsAt.drop {w : World} {a : Option Addr} {l : List Rt} (h : RtsAt w a l) {c : Nat} (hc : l.length ≤ c) (m : Nat) : RtsAt w (cutR a c m) (l.drop m) := fun i r hr => by
  have hr2 := hr
  rw [List.getElem?_drop] at hr2
  have hlt : m + i < l.length := (List.getElem?_eq_some_iff.1 hr2).1
  obtain ⟨ad, e, h1⟩ := h _ r hr2
  unfold cutR
  rw [if_neg (by omega), e]
  refine ⟨_, rfl, fun j v hv => ?_⟩
  rw [add_addR ad, show m * 32 + i * 32 = (m + i) * 32 from by omega]
  exact h1 j v hv
theorem cutR0 (a : Option Addr) (m : Nat) : (if m = 0 then a else a.map (·.add (0 * 32))) = a := by
  split
  · rfl
  · cases a <;> simp [Addr.add]
/-- The document's maker of sums. -/
abbrev MkAt (w : World) (bm : Nat) : Prop := OwnB w bm (MK.map U32) 53
theorem head_bytes {B : Bs} {L : Hl} {Y : Nat → Prop} {n b : Nat} {t : TypeId} {xs : List (BitVec 8)} {c : List Value} (hl : lkB L n = some (b, c, t)) (hc : c.take xs.length = xs.map U8) : ∀ w, Hq B L Y w → BytesAt w (some ⟨b, 0, none⟩) xs := fun w hw j v hv => by
  have hr := hp_row (n := n) hl w hw
  refine ⟨_, rfl, ?_⟩
  have hj : j < xs.length := by have := (List.getElem?_eq_some_iff.1 hv).1; simpa using this
  have h2 : c[j]? = some v := by rw [← hv, ← hc, List.getElem?_take, if_pos hj]
  rw [Addr.add_mid]
  exact hr j v h2
theorem msum_any (bm : Nat) (a : Option Addr) (len cap : Nat) (bs : List (BitVec 8)) (hlen : bs.length = len) (hl : bs.length ≤ 70368744170000) (w : World) (hw : Gt w) (ho : MkAt w bm) (hby : BytesAt w a bs) : Calls Tryd.prog 44 [.pointer (some ⟨bm, 0, none⟩), .slice a len cap].toArray w (fun e w' => e = .returned (.agg ((SHA bs).map U8).toArray) ∧ Grow w w') := by
  subst hlen
  have := msum_calls bm a cap bs hl w hw ho hby
  rw [msum_sha] at this
  exact this
theorem mpair_calls (bm : Nat) (x y : Rt) (hx : x.length = 32) (hy : y.length = 32) (w : World) (hw : Gt w) (ho : MkAt w bm) : Calls Tryd.prog 37 [.pointer (some ⟨bm, 0, none⟩), .agg (x.map U8).toArray, .agg (y.map U8).toArray].toArray w (fun e w' => e = .returned (.agg ((P2 x y).map U8).toArray) ∧ Grow w w') := by
  have hGF : BOk Gt (pl w) := gt_low.plain hw
  refine calls_of_X (G := Gt) Tryd.func37 rfl rfl (Hp (pl w) []) (hp_refl (pl w) trivial rides_true) (good_hp hGF) ?_
  refine xs_plain (E := EE []) ?_
  refine lx_boxr 4 hGF rfl rfl rfl ?_
  intro b4
  refine lx_boxr 5 hGF rfl rfl rfl ?_
  intro b5
  refine lx_allocr 6 hGF zv22 rfl rfl ?_
  intro b6
  refine lx_nil ?_
  refine xs_draws (E := EE []) [0, 1, 3, 2, 4, 5, 6] mixed rfl (by kernel_rfl) (by kernel_rfl) (by kernel_rfl) ?_
  refine lx_move rfl rfl rfl ?_
  refine lx_slarr1 (l := 0) (h' := 32) rfl Tryd.underlying22 Tryd.sizeOf5 rfl rfl (by omega) (by omega) rfl rfl ?_
  refine lx_slarr1 (l := 0) (h' := 32) rfl Tryd.underlying22 Tryd.sizeOf5 rfl rfl (by omega) (by omega) rfl rfl ?_
  refine lx_append (xs := []) (ys := x) 9 hGF rfl (by rw [hx]; rfl) Tryd.underlying39 Tryd.underlying39 ti5 (ownSl_nil _ _ _) (fun w' h => BytesAt.range (hp_row (n := 4) rfl w' h)) (by rw [hx]; decide) rfl rfl (fun h0 => absurd (congrArg List.length h0) (by simp [hx])) (fun b9 c9 cap9 e9 l9 t9 => ?_)
  subst e9
  rw [List.nil_append] at l9 t9 ⊢
  refine lx_append (xs := x) (ys := y) 9 hGF rfl (by rw [hy]; rfl) Tryd.underlying39 Tryd.underlying39 ti5 (.inr ⟨b9, c9, rfl, rfl, rfl, l9, t9⟩) (fun w' h => BytesAt.range (hp_row (n := 5) rfl w' h)) (by rw [hx, hy]; decide) rfl rfl (fun h0 => absurd (congrArg List.length h0) (by simp [hx])) (fun b11 c11 cap11 e11 l11 t11 => ?_)
  subst e11
  refine lx_callC rfl rfl ent44 (fun w' hw' hG => msum_any bm _ _ _ (x ++ y) rfl (by rw [List.length_append, hx, hy]; decide) w' hG (ho.of_same ((hp_below hw').block _ ho.lt)) (head_bytes (n := 9) rfl t11 w' hw')) rfl rfl ?_
  refine lx_storea 6 hGF rfl rfl rfl Tryd.sizeOf22 (by rw [List.length_map]; exact SHA_len _) (by rw [List.length_map]; exact Z0_len) (one_u8 _) rfl ?_
  refine lx_nil ?_
  refine x_ret ?_
  repeat (first | refine kseq_ret ?_ | refine kblk_ret ?_)
  exact kret_own 6 rfl rfl rfl Tryd.isAgg22 Tryd.sizeOf22 (by rw [List.length_map]; exact SHA_len _) (fun w' hw' => ⟨rfl, hp_below hw'⟩)
theorem zvH (w : World) : (zeroValue 33).run Tryd.prog w = .ok (.agg [.pointer none].toArray) w := Tryd.zeroValue33 w
theorem bldH (v : Option Addr) (w : World) : (Instr.build 33 #[(0, .pointer v)]).run Tryd.prog w = .ok (.agg [.pointer v].toArray) w := by
  simp [Instr.build, Tryd.zeroValue33, run_underlying Tryd.underlying33, Tryd.sizeOf31, Value.cells, Instr.fill]
theorem hnew_calls  (w : World) (hw : Gt w) : Calls Tryd.prog 6 [].toArray w (fun e w' => ∃ bm, e = .returned (.agg [.pointer (some ⟨bm, 0, none⟩)].toArray) ∧ Grow w w' ∧ w.heap.size ≤ bm ∧ MkAt w' bm) := by
  have hGF : BOk Gt (pl w) := gt_low.plain hw
  refine calls_of_X (G := Gt) Tryd.func6 rfl rfl (Hp (pl w) []) (hp_refl (pl w) trivial rides_true) (good_hp hGF) ?_
  refine xs_plain (E := EE [17]) ?_
  refine lx_allocr 0 hGF zvH rfl rfl ?_
  intro b0
  refine lx_nil ?_
  refine xs_plain (E := EE [17]) ?_
  refine lx_callE rfl rfl ent17 rfl rfl (fun w1 hC => (new_calls w1 (hGF.g _ _ _ hC)).mono fun e1 w2 h => ?_)
  obtain ⟨bm, rfl, hg, hbm, hob⟩ := h
  refine ⟨_, _, rfl, good_hp hGF, hC.news rides_true hg [(1, bm, MK.map U32, 53)] ?_ inj_one, ?_⟩
  · intro n' b' c' t' hl
    rcases lkB_cons hl with ⟨_, e⟩ | ⟨_, hl⟩
    · cases e; exact ⟨hbm, hob⟩
    · cases hl
  clear hC hg hbm hob
  refine lx_build (ps := [(0, .tmp 1)]) (vs := [.pointer (some ⟨bm, 0, none⟩)]) rfl (fun w => bldH _ w) rfl rfl ?_
  refine lx_storea 0 hGF rfl rfl rfl Tryd.sizeOf33 rfl rfl (by rfl) rfl ?_
  refine lx_nil ?_
  refine x_ret ?_
  repeat (first | refine kseq_ret ?_ | refine kblk_ret ?_)
  exact kret_own 0 rfl rfl rfl Tryd.isAgg33 Tryd.sizeOf33 rfl (fun w' hw' => ⟨bm, rfl, hp_below hw', (hw'.own 1 _ _ _ rfl).2.elim id False.elim, (hw'.own 1 _ _ _ rfl).1⟩)
end Go.Proofs.YtdkkipjcmflclaaDoor
