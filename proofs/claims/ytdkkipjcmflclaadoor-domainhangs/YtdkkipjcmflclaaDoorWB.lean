/-
  The document's roots of fields, of bytes, of keys and of headers.
-/
import Derived.Test.YtdkkipjcmflclaaDoorWA
namespace Go.Proofs.YtdkkipjcmflclaaDoor
open Go.RowKit
set_option maxRecDepth 100000
set_option maxHeartbeats 1000000
open Sh
theorem ent19 : Enters Tryd.prog 19 := fun _ _ => by kernel_rfl
theorem ent22 : Enters Tryd.prog 22 := fun _ _ => by kernel_rfl
theorem made_rep (v : Value) (s : Nat) (hs : 0 < s) (n : Nat) : (madeCells (List.replicate s v).toArray n).toList = List.replicate n v := by
  rw [madeCells]
  refine List.ext_getElem (by simp) fun i h1 h2 => ?_
  have h3 : i % s < s := Nat.mod_lt _ hs
  simp [h3]
theorem madeR (n : Nat) : (madeCells (Value.agg (Z0.map U8).toArray).cells (n * 32)).toList = (List.replicate (32 * n) 0#8).map U8 := by
  have hz : (Value.agg (Z0.map U8).toArray).cells = (List.replicate 32 (U8 0#8)).toArray := by
    show (Z0.map U8).toArray = _
    rw [Z0, List.map_replicate]
  rw [hz, made_rep _ 32 (by decide), List.map_replicate, Nat.mul_comm]
theorem flat_len : ∀ (l : List Rt), AllR l → l.flatten.length = 32 * l.length
  | [], _ => rfl
  | x :: l, h => by
    rw [List.flatten_cons, List.length_append, flat_len l (fun r hr => h r (List.mem_cons_of_mem _ hr)), h x (List.mem_cons_self ..), List.length_cons]; omega
theorem flat_get : ∀ (l : List Rt), AllR l → ∀ (i : Nat) (r : Rt), l[i]? = some r → ∀ (j : Nat) (v : BitVec 8), r[j]? = some v → l.flatten[i * 32 + j]? = some v
  | [], _, _, _, hr, _, _, _ => by simp at hr
  | x :: l, h, 0, r, hr, j, v, hv => by
    simp only [List.getElem?_cons_zero, Option.some.injEq] at hr
    subst hr
    have hj := (List.getElem?_eq_some_iff.1 hv).1
    rw [List.flatten_cons, Nat.zero_mul, Nat.zero_add, List.getElem?_append_left hj]
    exact hv
  | x :: l, h, i + 1, r, hr, j, v, hv => by
    simp only [List.getElem?_cons_succ] at hr
    have hx := h x (List.mem_cons_self ..)
    rw [List.flatten_cons, List.getElem?_append_right (by omega), show (i + 1) * 32 + j - x.length = i * 32 + j from by omega]
    exact flat_get l (fun r hr => h r (List.mem_cons_of_mem _ hr)) i r hr j v hv
/-- Roots that lie in a block from its beginning. -/
theorem rts_own {w : World} {b : Nat} {cs : List Value} {l : List Rt} (hl : AllR l) (h : w.rangeAt b 0 cs) (hc : cs.take (32 * l.length) = l.flatten.map U8) : RtsAt w (some ⟨b, 0, none⟩) l := fun i r hr => by
  refine ⟨_, rfl, fun j v hv => ?_⟩
  rw [List.getElem?_map, Option.map_eq_some_iff] at hv
  obtain ⟨x, hx, rfl⟩ := hv
  have hj := (List.getElem?_eq_some_iff.1 hx).1
  have hr32 := hl r (List.mem_of_getElem? hr)
  have hi := (List.getElem?_eq_some_iff.1 hr).1
  have h1 := flat_get l hl i r hr j x hx
  have h2 : cs[i * 32 + j]? = some (U8 x) := by
    have : (cs.take (32 * l.length))[i * 32 + j]? = some (U8 x) := by rw [hc, List.getElem?_map, h1]; rfl
    rw [List.getElem?_take, if_pos (by omega)] at this
    exact this
  have h3 := h _ _ h2
  rw [Addr.add_mid, Addr.add_mid]
  rw [Nat.zero_add] at h3
  rw [Nat.zero_add]
  exact h3
theorem zv23 (w : World) : (zeroValue 23).run Tryd.prog w = .ok (.agg ((List.replicate 32 0#8).map U8).toArray) w := (Tryd.zeroValue23 w).trans (by rfl)
/-- The root of a list of roots: as many as there are. -/
def Tor (l : List Rt) : Rt := tre P2 Z0 (dep l.length) l
theorem tor_len {l : List Rt} (h : AllR l) : (Tor l).length = 32 := tre_len h _
def chs (bs : List (BitVec 8)) : List Rt := (List.range (cks bs)).map (ck bs)
theorem chs_all (bs : List (BitVec 8)) : AllR (chs bs) := fun r hr => by
  obtain ⟨i, _, rfl⟩ := List.mem_map.1 hr
  exact ck_len bs i
theorem RW_list (l : List Rt) (hl : AllR l) : RW 32 (fun i => l.getD i []) l.length = l.flatten := by
  apply List.ext_getElem?
  intro m
  have hf := flat_len l hl
  rcases Nat.lt_or_ge m (32 * l.length) with h | h
  · rw [RW_get _ _ _ h]
    have hi : m / 32 < l.length := by omega
    have hr : l[m / 32]? = some l[m / 32] := List.getElem?_eq_getElem hi
    have hr32 := hl _ (List.getElem_mem hi)
    have hj : m % 32 < l[m / 32].length := by omega
    have := flat_get l hl (m / 32) _ hr (m % 32) _ (List.getElem?_eq_getElem hj)
    rw [show m / 32 * 32 + m % 32 = m from by omega] at this
    have e : l.getD (m / 32) [] = l[m / 32] := by rw [List.getD_eq_getElem?_getD, hr]; rfl
    rw [this, e, List.getD_eq_getElem?_getD, List.getElem?_eq_getElem hj]
    rfl
  · rw [List.getElem?_eq_none (by rw [RW_len]; exact h), List.getElem?_eq_none (by rw [hf]; exact h)]
/-- The root of bytes. -/
def BR8 (bs : List (BitVec 8)) : Rt := Tor (chs bs)
theorem BR8_len (bs : List (BitVec 8)) : (BR8 bs).length = 32 := tor_len (chs_all bs)
theorem own_rts {B : Bs} {L : Hl} {Y : Nat → Prop} {n b : Nat} {l : List Rt} {c : List Value} {t : TypeId} (hl : AllR l) (h : lkB L n = some (b, c, t)) (hc : c.take (32 * l.length) = l.flatten.map U8) : ∀ w, Hq B L Y w → RtsAt w (some ⟨b, 0, none⟩) l := fun w hw => rts_own hl (hp_row (n := n) h w hw) hc
theorem rts_nil (w : World) (a : Option Addr) : RtsAt w a [] := fun i r h => by simp at h
theorem htr_calls (bm : Nat) (l : List Rt) (hl : AllR l) (hln : l.length ≤ 1000000) (a : Option Addr) (cap : Nat) (hc : l.length ≤ cap) (w : World) (hw : Gt w) (ho : MkAt w bm) (hr : RtsAt w a l) : Calls Tryd.prog 19 [.agg [.pointer (some ⟨bm, 0, none⟩)].toArray, .slice a l.length cap].toArray w (fun e w' => e = .returned (.agg ((Tor l).map U8).toArray) ∧ Grow w w') := by
  have hGF : BOk Gt (pl w) := gt_low.plain hw
  refine calls_of_X (G := Gt) Tryd.func19 rfl rfl (Hp (pl w) []) (hp_refl (pl w) trivial rides_true) (good_hp hGF) ?_
  refine xs_plain (E := EE []) ?_
  refine lx_boxr 2 hGF rfl rfl rfl ?_
  intro b2
  refine lx_allocr 4 hGF zv23 rfl rfl ?_
  intro b4
  refine lx_nil ?_
  refine xs_drawn (E := EE []) mixed (by kernel_rfl) (by kernel_rfl) (by kernel_rfl) ?_
  refine lx_loada 2 rfl rfl Tryd.isAgg33 Tryd.sizeOf33 rfl rfl rfl ?_
  refine lx_move rfl rfl rfl ?_
  refine lx_move rfl rfl rfl ?_
  refine lx_len rfl (fun _ => len_slice Tryd.underlying57 _ _ _ _) rfl rfl ?_
  refine lx_callC rfl rfl ent27 (fun w' _ hG => hdepth_calls (l.length : Int) w' hG) rfl rfl ?_
  refine lx_callC rfl rfl ent26 (fun w' hw' hG => htree_calls bm _ (by have := (dep_is l.length).1; simp only [Int.toNat_natCast]; omega) l hl l.length rfl hln a cap hc w' hG (ho.of_same ((hp_below hw').block _ ho.lt)) (hr.grow (hp_below hw'))) rfl rfl ?_
  refine lx_storea 4 hGF rfl rfl rfl Tryd.sizeOf23 (by rw [List.length_map]; exact tre_len hl _) (by rw [List.length_map]; exact Z0_len) (one_u8 _) rfl ?_
  refine lx_nil ?_
  refine x_ret ?_
  repeat (first | refine kseq_ret ?_ | refine kblk_ret ?_)
  exact kret_own 4 rfl rfl rfl Tryd.isAgg23 Tryd.sizeOf23 (by rw [List.length_map]; exact tre_len hl _) (fun w' hw' => ⟨rfl, hp_below hw'⟩)
end Go.Proofs.YtdkkipjcmflclaaDoor
