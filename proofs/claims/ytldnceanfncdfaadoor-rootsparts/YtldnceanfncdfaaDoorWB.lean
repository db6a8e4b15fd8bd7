/-
  The document's roots of fields, of bytes, of keys and of headers.
-/
import Derived.Test.YtldnceanfncdfaaDoorWA
namespace Go.Proofs.YtldnceanfncdfaaDoor
open Go.RowKit
set_option maxRecDepth 100000
set_option maxHeartbeats 1000000
open Sh
theorem ent34 : Enters Tryd.prog 34 := fun _ _ => by kernel_rfl
theorem ent41 : Enters Tryd.prog 41 := fun _ _ => by kernel_rfl
theorem ent23 : Enters Tryd.prog 23 := fun _ _ => by kernel_rfl
theorem made_rep (v : Value) (s : Nat) (hs : 0 < s) (n : Nat) : (madeCells (List.replicate s v).toArray n).toList = List.replicate n v := by
  rw [madeCells]
  refine List.ext_getElem (by simp) fun i h1 h2 => ?_
  have h3 : i % s < s := Nat.mod_lt _ hs
  simp [h3]
theorem madeR (n : Nat) : (madeCells (Value.agg (Z0.map U8).toArray).cells (n * 32)).toList = (List.replicate (32 * n) 0#8).map U8 := by
  have hz : (Value.agg (Z0.map U8).toArray).cells = (List.replicate 32 (U8 0#8)).toArray := by
    show (Z0.map U8).toArray = _
    rw [Z0, List.map_replicate]
  rw [hz, made_rep _ 32 (by decide), List.map_replicate, Nat.mul_comm]
theorem flat_len : ∀ (l : List Rt), AllR l → l.flatten.length = 32 * l.length
  | [], _ => rfl
  | x :: l, h => by
    rw [List.flatten_cons, List.length_append, flat_len l (fun r hr => h r (List.mem_cons_of_mem _ hr)), h x (List.mem_cons_self ..), List.length_cons]; omega
theorem flat_get : ∀ (l : List Rt), AllR l → ∀ (i : Nat) (r : Rt), l[i]? = some r → ∀ (j : Nat) (v : BitVec 8), r[j]? = some v → l.flatten[i * 32 + j]? = some v
  | [], _, _, _, hr, _, _, _ => by simp at hr
  | x :: l, h, 0, r, hr, j, v, hv => by
    simp only [List.getElem?_cons_zero, Option.some.injEq] at hr
    subst hr
    have hj := (List.getElem?_eq_some_iff.1 hv).1
    rw [List.flatten_cons, Nat.zero_mul, Nat.zero_add, List.getElem?_append_left hj]
    exact hv
  | x :: l, h, i + 1, r, hr, j, v, hv => by
    simp only [List.getElem?_cons_succ] at hr
    have hx := h x (List.mem_cons_self ..)
    rw [List.flatten_cons, List.getElem?_append_right (by omega), show (i + 1) * 32 + j - x.length = i * 32 + j from by omega]
    exact flat_get l (fun r hr => h r (List.mem_cons_of_mem _ hr)) i r hr j v hv
/-- Roots that lie in a block from its beginning. -/
theorem rts_own {w : World} {b : Nat} {cs : List Value} {l : List Rt} (hl : AllR l) (h : w.rangeAt b 0 cs) (hc : cs.take (32 * l.length) = l.flatten.map U8) : RtsAt w (some ⟨b, 0, none⟩) l := fun i r hr => by
  refine ⟨_, rfl, fun j v hv => ?_⟩
  rw [List.getElem?_map, Option.map_eq_some_iff] at hv
  obtain ⟨x, hx, rfl⟩ := hv
  have hj := (List.getElem?_eq_some_iff.1 hx).1
  have hr32 := hl r (List.mem_of_getElem? hr)
  have hi := (List.getElem?_eq_some_iff.1 hr).1
  have h1 := flat_get l hl i r hr j x hx
  have h2 : cs[i * 32 + j]? = some (U8 x) := by
    have : (cs.take (32 * l.length))[i * 32 + j]? = some (U8 x) := by rw [hc, List.getElem?_map, h1]; rfl
    rw [List.getElem?_take, if_pos (by omega)] at this
    exact this
  have h3 := h _ _ h2
  rw [Addr.add_mid, Addr.add_mid]
  rw [Nat.zero_add] at h3
  rw [Nat.zero_add]
  exact h3
theorem zv24 (w : World) : (zeroValue 24).run Tryd.prog w = .ok (.agg ((List.replicate 32 0#8).map U8).toArray) w := (Tryd.zeroValue24 w).trans (by rfl)
/-- The root of a list of roots: as many as there are. -/
def Tor (l : List Rt) : Rt := tre P2 Z0 (dep l.length) l
theorem tor_len {l : List Rt} (h : AllR l) : (Tor l).length = 32 := tre_len h _
def chs (bs : List (BitVec 8)) : List Rt := (List.range (cks bs)).map (ck bs)
theorem chs_len (bs : List (BitVec 8)) : (chs bs).length = cks bs := by simp [chs]
theorem chs_all (bs : List (BitVec 8)) : AllR (chs bs) := fun r hr => by
  obtain ⟨i, _, rfl⟩ := List.mem_map.1 hr
  exact ck_len bs i
theorem RW_list (l : List Rt) (hl : AllR l) : RW 32 (fun i => l.getD i []) l.length = l.flatten := by
  apply List.ext_getElem?
  intro m
  have hf := flat_len l hl
  rcases Nat.lt_or_ge m (32 * l.length) with h | h
  · rw [RW_get _ _ _ h]
    have hi : m / 32 < l.length := by omega
    have hr : l[m / 32]? = some l[m / 32] := List.getElem?_eq_getElem hi
    have hr32 := hl _ (List.getElem_mem hi)
    have hj : m % 32 < l[m / 32].length := by omega
    have := flat_get l hl (m / 32) _ hr (m % 32) _ (List.getElem?_eq_getElem hj)
    rw [show m / 32 * 32 + m % 32 = m from by omega] at this
    have e : l.getD (m / 32) [] = l[m / 32] := by rw [List.getD_eq_getElem?_getD, hr]; rfl
    rw [this, e, List.getD_eq_getElem?_getD, List.getElem?_eq_getElem hj]
    rfl
  · rw [List.getElem?_eq_none (by rw [RW_len]; exact h), List.getElem?_eq_none (by rw [hf]; exact h)]
theorem RW_fun {f g : Nat → List (BitVec 8)} {n : Nat} (h : ∀ i, i < n → f i = g i) : RW 32 f n = RW 32 g n := by
  unfold RW
  refine List.map_congr_left fun m hm => ?_
  rw [h (m / 32) (by have := List.mem_range.1 hm; omega)]
theorem chs_flat (bs : List (BitVec 8)) : RW 32 (ck bs) (cks bs) = (chs bs).flatten := by
  rw [← RW_list _ (chs_all bs), chs_len]
  refine RW_fun fun i hi => ?_
  rw [List.getD_eq_getElem?_getD, chs, List.getElem?_map, List.getElem?_range hi]
  rfl
/-- The root of bytes. -/
def BR8 (bs : List (BitVec 8)) : Rt := Tor (chs bs)
theorem BR8_len (bs : List (BitVec 8)) : (BR8 bs).length = 32 := tor_len (chs_all bs)
theorem own_rts {B : Bs} {L : Hl} {Y : Nat → Prop} {n b : Nat} {l : List Rt} {c : List Value} {t : TypeId} (hl : AllR l) (h : lkB L n = some (b, c, t)) (hc : c.take (32 * l.length) = l.flatten.map U8) : ∀ w, Hq B L Y w → RtsAt w (some ⟨b, 0, none⟩) l := fun w hw => rts_own hl (hp_row (n := n) h w hw) hc
theorem rts_nil (w : World) (a : Option Addr) : RtsAt w a [] := fun i r h => by simp at h
theorem htr_calls (bm : Nat) (l : List Rt) (hl : AllR l) (hln : l.length ≤ 1000000) (a : Option Addr) (cap : Nat) (hc : l.length ≤ cap) (w : World) (hw : Gt w) (ho : MkAt w bm) (hr : RtsAt w a l) : Calls Tryd.prog 34 [.agg [.pointer (some ⟨bm, 0, none⟩)].toArray, .slice a l.length cap].toArray w (fun e w' => e = .returned (.agg ((Tor l).map U8).toArray) ∧ Grow w w') := by
  have hGF : BOk Gt (pl w) := gt_low.plain hw
  refine calls_of_X (G := Gt) Tryd.func34 rfl rfl (Hp (pl w) []) (hp_refl (pl w) trivial rides_true) (good_hp hGF) ?_
  refine xs_plain (E := EE []) ?_
  refine lx_boxr 2 hGF rfl rfl rfl ?_
  intro b2
  refine lx_allocr 4 hGF zv24 rfl rfl ?_
  intro b4
  refine lx_nil ?_
  refine xs_drawn (E := EE []) mixed (by kernel_rfl) (by kernel_rfl) (by kernel_rfl) ?_
  refine lx_loada 2 rfl rfl Tryd.isAgg47 Tryd.sizeOf47 rfl rfl rfl ?_
  refine lx_move rfl rfl rfl ?_
  refine lx_move rfl rfl rfl ?_
  refine lx_len rfl (fun _ => len_slice Tryd.underlying60 _ _ _ _) rfl rfl ?_
  refine lx_callC rfl rfl ent30 (fun w' _ hG => hdepth_calls (l.length : Int) w' hG) rfl rfl ?_
  refine lx_callC rfl rfl ent29 (fun w' hw' hG => htree_calls bm _ (by have := (dep_is l.length).1; simp only [Int.toNat_natCast]; omega) l hl l.length rfl hln a cap hc w' hG (ho.of_same ((hp_below hw').block _ ho.lt)) (hr.grow (hp_below hw'))) rfl rfl ?_
  refine lx_storea 4 hGF rfl rfl rfl Tryd.sizeOf24 (by rw [List.length_map]; exact tre_len hl _) (by rw [List.length_map]; exact Z0_len) (one_u8 _) rfl ?_
  refine lx_nil ?_
  refine x_ret ?_
  repeat (first | refine kseq_ret ?_ | refine kblk_ret ?_)
  exact kret_own 4 rfl rfl rfl Tryd.isAgg24 Tryd.sizeOf24 (by rw [List.length_map]; exact tre_len hl _) (fun w' hw' => ⟨rfl, hp_below hw'⟩)
theorem hby_n (bm : Nat) (a : Option Addr) (cap : Nat) (w : World) (hw : Gt w) (ho : MkAt w bm) : Calls Tryd.prog 41 [.agg [.pointer (some ⟨bm, 0, none⟩)].toArray, .slice a 0 cap].toArray w (fun e w' => e = .returned (.agg ((BR8 []).map U8).toArray) ∧ Grow w w') := by
  have hGF : BOk Gt (pl w) := gt_low.plain hw
  refine calls_of_X (G := Gt) Tryd.func41 rfl rfl (Hp (pl w) []) (hp_refl (pl w) trivial rides_true) (good_hp hGF) ?_
  refine xs_plain (E := EE [53]) ?_
  refine lx_boxr 2 hGF rfl rfl rfl ?_
  intro b2
  refine lx_allocr 4 hGF zv23 rfl rfl ?_
  intro b4
  refine lx_nil ?_
  refine xs_plain (E := EE [53]) ?_
  refine lx_move rfl rfl rfl ?_
  refine lx_callE rfl rfl ent53 rfl rfl (fun w' hw' => (rpk_calls [] a cap (by decide) (Nat.zero_le _) w' (hGF.g _ _ _ hw') (bytes_nil _ _)).mono fun e1 w2 h => ?_)
  obtain ⟨_, rfl, hg, a9, c9, rfl, hs9, hn9⟩ := h
  refine ⟨_, _, rfl, good_hp hGF, hw'.news rides_true hg [] (fun _ _ _ _ h => by cases h) (fun _ _ _ _ _ _ _ h => by cases h), ?_⟩
  clear hw' hg hs9 hn9
  refine lx_assign rfl rfl rfl ?_
  refine lx_nil ?_
  refine xs_drawn (E := EE [53]) mixed (by kernel_rfl) (by kernel_rfl) (by kernel_rfl) ?_
  refine lx_loada 2 rfl rfl Tryd.isAgg47 Tryd.sizeOf47 rfl rfl rfl ?_
  refine lx_move rfl rfl rfl ?_
  refine lx_move rfl rfl rfl ?_
  refine lx_len rfl (fun _ => len_slice Tryd.underlying60 _ _ _ _) rfl rfl ?_
  refine lx_callC rfl rfl ent30 (fun w' _ hG => hdepth_calls (0 : Nat) w' hG) rfl rfl ?_
  refine lx_callC rfl rfl ent29 (fun w' hw' hG => htree_calls bm _ (by have := (dep_is (0)).1; simp only [Int.toNat_natCast]; omega) [] (fun _ h => by simp at h) (0) rfl (by first | decide | (rw [chs_len]; unfold cks; omega)) _ c9 (by first | exact Nat.zero_le _ | exact hc9) w' hG (ho.of_same ((hp_below hw').block _ ho.lt)) (rts_nil _ _)) rfl rfl ?_
  refine lx_storea 4 hGF rfl rfl rfl Tryd.sizeOf23 (by rw [List.length_map]; exact tre_len (fun _ h => by simp at h) _) (by rw [List.length_map]; exact Z0_len) (one_u8 _) rfl ?_
  refine lx_nil ?_
  refine x_ret ?_
  repeat (first | refine kseq_ret ?_ | refine kblk_ret ?_)
  exact kret_own 4 rfl rfl rfl Tryd.isAgg23 Tryd.sizeOf23 (by rw [List.length_map]; exact tre_len (fun _ h => by simp at h) _) (fun w' hw' => ⟨rfl, hp_below hw'⟩)
theorem hby_s (bm : Nat) (bs : List (BitVec 8)) (h0 : 0 < bs.length) (hl : bs.length ≤ 1000000) (a : Option Addr) (cap : Nat) (hc : bs.length ≤ cap) (w : World) (hw : Gt w) (ho : MkAt w bm) (hb : BytesAt w a bs) : Calls Tryd.prog 41 [.agg [.pointer (some ⟨bm, 0, none⟩)].toArray, .slice a bs.length cap].toArray w (fun e w' => e = .returned (.agg ((BR8 bs).map U8).toArray) ∧ Grow w w') := by
  have hGF : BOk Gt (pl w) := gt_low.plain hw
  refine calls_of_X (G := Gt) Tryd.func41 rfl rfl (Hp (pl w) []) (hp_refl (pl w) trivial rides_true) (good_hp hGF) ?_
  refine xs_plain (E := EE [53]) ?_
  refine lx_boxr 2 hGF rfl rfl rfl ?_
  intro b2
  refine lx_allocr 4 hGF zv23 rfl rfl ?_
  intro b4
  refine lx_nil ?_
  refine xs_plain (E := EE [53]) ?_
  refine lx_move rfl rfl rfl ?_
  refine lx_callE rfl rfl ent53 rfl rfl (fun w' hw' => (rpk_calls bs a cap hl hc w' (hGF.g _ _ _ hw') (hb.grow (hp_below hw'))).mono fun e1 w2 h => ?_)
  obtain ⟨_, rfl, hg, a9, c9, rfl, hs9, hn9⟩ := h
  unfold SlR at hs9
  rw [chs_flat, ← chs_len] at hs9
  obtain ⟨b9, cs9, rfl, ho9, hl9, hc9, _, ht9⟩ := hs9.resolve_left (fun h => by have h3 := h.2.2.1; rw [chs_len] at h3; unfold cks at h3; omega)
  refine ⟨_, _, rfl, good_hp hGF, hw'.news rides_true hg [(7, b9, cs9, 23)] ?_ inj_one, ?_⟩
  · intro n' b' c' t' hl
    rcases lkB_cons hl with ⟨_, e⟩ | ⟨_, hl⟩
    · cases e; exact ⟨hn9 _ rfl, ho9⟩
    · cases hl
  rw [← chs_len]
  rw [List.length_map, flat_len _ (chs_all bs)] at ht9
  clear hw' hg hn9 ho9
  refine lx_assign rfl rfl rfl ?_
  refine lx_nil ?_
  refine xs_drawn (E := EE [53]) mixed (by kernel_rfl) (by kernel_rfl) (by kernel_rfl) ?_
  refine lx_loada 2 rfl rfl Tryd.isAgg47 Tryd.sizeOf47 rfl rfl rfl ?_
  refine lx_move rfl rfl rfl ?_
  refine lx_move rfl rfl rfl ?_
  refine lx_len rfl (fun _ => len_slice Tryd.underlying60 _ _ _ _) rfl rfl ?_
  refine lx_callC rfl rfl ent30 (fun w' _ hG => hdepth_calls ((chs bs).length : Nat) w' hG) rfl rfl ?_
  refine lx_callC rfl rfl ent29 (fun w' hw' hG => htree_calls bm _ (by have := (dep_is ((chs bs).length)).1; simp only [Int.toNat_natCast]; omega) (chs bs) (chs_all bs) ((chs bs).length) rfl (by first | decide | (rw [chs_len]; unfold cks; omega)) _ c9 (by first | exact Nat.zero_le _ | exact hc9) w' hG (ho.of_same ((hp_below hw').block _ ho.lt)) (own_rts (n := 7) (chs_all bs) rfl ht9 w' hw')) rfl rfl ?_
  refine lx_storea 4 hGF rfl rfl rfl Tryd.sizeOf23 (by rw [List.length_map]; exact tre_len (chs_all bs) _) (by rw [List.length_map]; exact Z0_len) (one_u8 _) rfl ?_
  refine lx_nil ?_
  refine x_ret ?_
  repeat (first | refine kseq_ret ?_ | refine kblk_ret ?_)
  exact kret_own 4 rfl rfl rfl Tryd.isAgg23 Tryd.sizeOf23 (by rw [List.length_map]; exact tre_len (chs_all bs) _) (fun w' hw' => ⟨rfl, hp_below hw'⟩)
theorem hby_calls (bm : Nat) (bs : List (BitVec 8)) (hl : bs.length ≤ 1000000) (a : Option Addr) (cap : Nat) (hc : bs.length ≤ cap) (w : World) (hw : Gt w) (ho : MkAt w bm) (hb : BytesAt w a bs) : Calls Tryd.prog 41 [.agg [.pointer (some ⟨bm, 0, none⟩)].toArray, .slice a bs.length cap].toArray w (fun e w' => e = .returned (.agg ((BR8 bs).map U8).toArray) ∧ Grow w w') := by
  rcases Nat.eq_zero_or_pos bs.length with h0 | h0
  · obtain rfl : bs = [] := List.eq_nil_of_length_eq_zero h0
    exact hby_n bm a cap w hw ho
  · exact hby_s bm bs h0 hl a cap hc w hw ho hb
end Go.Proofs.YtldnceanfncdfaaDoor
