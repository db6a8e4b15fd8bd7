/-
  The program's committees of so many keys; its roots of containers.
-/
import Derived.Test.YtldnceanfncdfaaDoorUE
import Derived.Test.YtldnceanfncdfaaDoorWG
namespace Go.Proofs.YtldnceanfncdfaaDoor
open Go.RowKit
set_option maxRecDepth 100000
set_option maxHeartbeats 1000000
open Sh
theorem flat_at : ∀ (l : List By) {s : Nat}, (∀ r ∈ l, r.length = s) → ∀ i r, l[i]? = some r → ∀ j v, (r.map U8)[j]? = some v → (l.flatten.map U8)[i * s + j]? = some v
  | [], _, _, i, r, hr, _, _, _ => by simp at hr
  | x :: l, s, hl, 0, r, hr, j, v, hv => by
    simp at hr
    subst hr
    rw [List.flatten_cons, List.map_append, List.getElem?_append_left (by have := (List.getElem?_eq_some_iff.1 hv).1; omega), Nat.zero_mul, Nat.zero_add]
    exact hv
  | x :: l, s, hl, i + 1, r, hr, j, v, hv => by
    have hx : x.length = s := hl x List.mem_cons_self
    have := flat_at l (fun r h => hl r (List.mem_cons_of_mem _ h)) i r (by simpa using hr) j v hv
    rw [List.flatten_cons, List.map_append, List.getElem?_append_right (by rw [List.length_map, hx, Nat.succ_mul]; omega), List.length_map, hx, show (i + 1) * s + j - s = i * s + j from by rw [Nat.succ_mul]; omega]
    exact this
theorem rws_range {s : Nat} {w : World} {b : Nat} {l : List By} (hl : ∀ r ∈ l, r.length = s) (h : w.rangeAt b 0 (l.flatten.map U8)) : RwsAt s w (some ⟨b, 0, none⟩) l := fun i r hr => by
  refine ⟨_, rfl, fun j v hv => ?_⟩
  have := h _ v (flat_at l hl i r hr j v hv)
  rw [Addr.add_mid, Addr.add_mid, Nat.add_assoc]
  exact this
theorem fl48 : ∀ (l : List By), (∀ r ∈ l, r.length = 48) → l.flatten.length = 48 * l.length
  | [], _ => rfl
  | x :: l, h => by rw [List.flatten_cons, List.length_append, fl48 l (fun r hr => h r (List.mem_cons_of_mem _ hr)), h x List.mem_cons_self, List.length_cons]; omega
theorem rws_cells {w : World} {a : Option Addr} : ∀ {l : List By}, RwsAt 48 w a l → (∀ r ∈ l, r.length = 48) → CellsAt w a (l.flatten.map U8) := fun {l} h hl j v hv => by
  have hj : j < l.flatten.length := by have := (List.getElem?_eq_some_iff.1 hv).1; rwa [List.length_map] at this
  rw [fl48 l hl] at hj
  have hi : j / 48 < l.length := by omega
  obtain ⟨ad, e, hc⟩ := h (j / 48) _ (List.getElem?_eq_getElem hi)
  have h48 := hl _ (List.getElem_mem hi)
  have hm : j % 48 < l[j / 48].length := by rw [h48]; omega
  have h2 := flat_at l hl (j / 48) _ (List.getElem?_eq_getElem hi) (j % 48) _ (by rw [List.getElem?_map, List.getElem?_eq_getElem hm]; rfl)
  rw [show j / 48 * 48 + j % 48 = j from by omega, hv] at h2
  cases Option.some.inj h2
  refine ⟨ad, e, ?_⟩
  have := hc (j % 48) (U8 l[j / 48][j % 48]) (by rw [List.getElem?_map, List.getElem?_eq_getElem hm]; rfl)
  rw [add_addR, show j / 48 * 48 + j % 48 = j from by omega] at this
  exact this
theorem RwsAt.take {s : Nat} {w : World} {a : Option Addr} {l : List By} (h : RwsAt s w a l) (n : Nat) : RwsAt s w a (l.take n) := fun i r hr => by
  rw [List.getElem?_take] at hr
  split at hr
  · exact h i r hr
  · cases hr
/-- So many keys: noughts where there are none, more cut off. -/
def sizK (ks : List By) (n : Nat) : List By := ks.take n ++ List.replicate (n - ks.length) Z48
theorem siz_len (ks : List By) (n : Nat) : (sizK ks n).length = n := by simp [sizK]; omega
theorem siz_48 {ks : List By} (h : ∀ r ∈ ks, r.length = 48) (n : Nat) : ∀ r ∈ sizK ks n, r.length = 48 := fun r hr => by
  rcases List.mem_append.1 hr with hr | hr
  · exact h r (List.mem_of_mem_take hr)
  · rw [(List.mem_replicate.1 hr).2]; rfl
theorem siz_get (ks : List By) (n i : Nat) (hi : i < n) : (sizK ks n).getD i Z48 = ks.getD i Z48 := by
  rw [List.getD_eq_getElem?_getD, List.getD_eq_getElem?_getD, sizK]
  rcases Nat.lt_or_ge i ks.length with h | h
  · rw [List.getElem?_append_left (by rw [List.length_take]; omega), List.getElem?_take, if_pos hi]
  · rw [List.getElem?_append_right (by rw [List.length_take]; omega), List.getElem?_eq_none (l := ks) h, List.getElem?_replicate, List.length_take]
    split <;> rfl
theorem siz_krs (ks : List By) (n : Nat) : krs (sizK ks n) n = krs ks n := List.map_congr_left fun i hi => by rw [siz_get ks n i (List.mem_range.1 hi)]
theorem siz_lay {ks : List By} (h : ∀ r ∈ ks, r.length = 48) (n : Nat) : lay 0 ((ks.take n).flatten.map U8) ((List.replicate (48 * n) 0#8).map U8) = (sizK ks n).flatten.map U8 := by
  have h1 : (ks.take n).flatten.length = 48 * min n ks.length := by rw [fl48 _ (fun r hr => h r (List.mem_of_mem_take hr)), List.length_take]
  rw [lay_eq _ _ _ (by rw [List.length_map, h1, List.length_map, List.length_replicate]; omega), List.take_zero, List.nil_append, ← List.map_drop, ← List.map_append, sizK, List.flatten_append]
  congr 2
  rw [List.drop_replicate, Z48, List.flatten_replicate_replicate, Nat.zero_add, List.length_map, h1]
  congr 1
  omega
def Co.siz (c : Co) (n b : Nat) : Co := ⟨sizK c.ks n, some ⟨b, 0, none⟩, n, c.sum⟩
theorem Co.siz_ok {c : Co} (k : c.Ok) (n b : Nat) : (c.siz n b).Ok := ⟨siz_48 k.ks n, k.sum, Nat.le_of_eq (siz_len _ _)⟩
theorem Co.siz_rt (c : Co) (n b : Nat) : (c.siz n b).rt (c.siz n b).ks.length = c.rt n := by
  show Tor [Tor (krs (sizK c.ks n) (sizK c.ks n).length), BR8 c.sum] = Tor [Tor (krs c.ks n), BR8 c.sum]
  rw [siz_len, siz_krs]
theorem Co.siz_cs (c : Co) (n b : Nat) : (c.siz n b).cs = .slice (some ⟨b, 0, none⟩) n n :: c.sum.map U8 := by
  show Value.slice (some ⟨b, 0, none⟩) (sizK c.ks n).length n :: c.sum.map U8 = _
  rw [siz_len]
theorem bldC2 (a : Option Addr) (n m : Nat) (s : By) (hs : s.length = 48) (w : World) : (Instr.build 31 #[(0, .slice a n m), (1, .agg (s.map U8).toArray)]).run Tryd.prog w = .ok (.agg (Value.slice a n m :: s.map U8).toArray) w := run_buildP (c := Value.slice none 0 0 :: Z48.map U8) zvCo Tryd.underlying31 (ps := #[(0, 1), (1, 48)]) (fun w => by simp [Tryd.sizeOf27, Tryd.sizeOf29]) [(0, .slice a n m), (1, .agg (s.map U8).toArray)] (by
    rw [fill_mid (vs := [.slice a n m]) (off := 0) (size := 1) rfl rfl rfl (by show 1 ≤ 49; decide), fill_mid (vs := s.map U8) (off := 1) (size := 48) rfl rfl (by rw [List.length_map, hs]) (by rw [List.length_map, hs]; show 49 ≤ 49; decide), List.length_map, hs]
    simp [Instr.fill, Z48]) w
theorem madeKn (n : Nat) : (madeCells (Value.agg (Z48.map U8).toArray).cells (n * 48)).toList = (List.replicate (48 * n) 0#8).map U8 := by
  have hz : (Value.agg (Z48.map U8).toArray).cells = (List.replicate 48 (U8 0#8)).toArray := by
    show (Z48.map U8).toArray = _
    rw [Z48, List.map_replicate]
  rw [hz, made_rep _ 48 (by decide), List.map_replicate, Nat.mul_comm]
theorem siz_calls (c : Co) (hk : c.Ok) (n : Nat) (hn : n ≤ 1000) (w : World) (hw : Gt w) (hks : RwsAt 48 w c.ka c.ks) : Calls Tryd.prog 37 [.agg c.cs.toArray, I (n : Int)].toArray w (fun e w' => ∃ b, e = .returned (.agg (c.siz n b).cs.toArray) ∧ Grow w w' ∧ w.heap.size ≤ b ∧ OwnB w' b ((sizK c.ks n).flatten.map U8) 29) := by
  have hfk : ∀ r ∈ c.ks.take n, r.length = 48 := fun r hr => hk.ks r (List.mem_of_mem_take hr)
  have hfl : (c.ks.take n).flatten.length = 48 * min n c.ks.length := by rw [fl48 _ hfk, List.length_take]
  have hGF : BOk Gt (pl w) := gt_low.plain hw
  refine calls_of_X (G := Gt) Tryd.func37 rfl rfl (Hp (pl w) []) (hp_refl (pl w) trivial rides_true) (good_hp hGF) ?_
  refine xs_plain (E := EE []) ?_
  refine lx_boxr 2 hGF rfl rfl rfl ?_
  intro b2
  refine lx_allocr 4 hGF zvCo rfl rfl ?_
  intro b4
  refine lx_nil ?_
  refine xs_plain (E := EE []) ?_
  refine lx_move rfl rfl rfl ?_
  refine lx_mkslC (l := n) (m := n) (c := (List.replicate (48 * n) 0#8).map U8) 7 hGF rfl rfl (Nat.le_refl _) Tryd.underlying27 tiK ⟨by omega, by omega, by omega⟩ (madeKn _) rfl rfl ?_
  intro b7
  refine lx_assign rfl rfl rfl ?_
  refine lx_nil ?_
  refine xs_plain (E := EE []) ?_
  refine lx_move rfl rfl rfl ?_
  refine lx_fak 0 rfl Tryd.underlying31 rfl Tryd.sizeOf27 (by decide) rfl rfl rfl ?_
  refine lx_load (v := .slice c.ka c.ks.length c.kc) rfl Tryd.isAgg27 (fun w' hw' => by have := (hp_row (n := 2) rfl w' hw') _ _ (Co.a0 0 _ rfl); exact this) rfl rfl ?_
  refine lx_copyR (cs := (c.ks.take n).flatten.map U8) 7 48 (by decide) hGF rfl rfl rfl Tryd.underlying27 (by kernel_rfl) (by rw [List.length_map, hfl]; show _ = min c.ks.length n * 48; rw [Nat.mul_comm, Nat.min_comm]) (fun w' h => rws_cells ((hks.take n).grow (hp_below h)) hfk) (one_u8 _) (by rw [List.length_map, hfl, List.length_map, List.length_replicate]; omega) rfl rfl ?_
  rw [siz_lay hk.ks]
  refine lx_nil ?_
  refine xs_plain (E := EE []) ?_
  refine lx_move rfl rfl rfl ?_
  refine lx_fak 1 rfl Tryd.underlying31 rfl Tryd.sizeOf29 (by decide) rfl rfl rfl ?_
  refine lx_loadr (cs := c.sum.map U8) rfl Tryd.isAgg29 Tryd.sizeOf29 (by rw [List.length_map]; exact hk.sum) (fun w' hw' j v hv => by have := (hp_row (n := 2) rfl w' hw') _ v (Co.a_sum j v hv); rwa [Nat.zero_add] at this) rfl rfl ?_
  refine lx_build (ps := [(0, .tmp 12), (1, .tmp 14)]) (vs := [.slice (some ⟨b7, 0, none⟩) n n, .agg (c.sum.map U8).toArray]) rfl (fun w => bldC2 _ _ _ _ hk.sum w) rfl rfl ?_
  rw [← Co.siz_cs]
  refine lx_storea 4 hGF rfl rfl rfl Tryd.sizeOf31 (Co.len (Co.siz_ok hk n _)) (by rfl) (by rw [Co.siz_cs, List.all_cons, one_u8]; rfl) rfl ?_
  refine lx_nil ?_
  refine x_ret ?_
  repeat (first | refine kseq_ret ?_ | refine kblk_ret ?_)
  exact kret_own 4 rfl rfl rfl Tryd.isAgg31 Tryd.sizeOf31 (Co.len (Co.siz_ok hk n _)) (fun w' hw' => ⟨_, rfl, hp_below hw', (hw'.own 7 _ _ _ rfl).2.elim id False.elim, (hw'.own 7 _ _ _ rfl).1⟩)
theorem brn_n (bs : By) (n : Nat) (hb : bs.length = 32 * n) (hn : n ≤ 1000) (a : Option Addr) (w : World) (hw : Gt w) (hy : BytesAt w a bs) : Calls Tryd.prog 38 [.slice a n n].toArray w (fun e w' => e = .returned (.agg ((Tor (cut32 bs n)).map U8).toArray) ∧ Grow w w') := by
  have := brn_calls (cut32 bs n) (cut32_all hb) (by rw [cut32_len]; exact hn) a n w hw (rts_cut hb hy)
  rw [cut32_len] at this
  exact this
theorem Hd.c0 {h : Hd} : ∀ j v, [U64 h.s][j]? = some v → h.cs[0 + j]? = some v := mid_at (pre := []) (post := U64 h.p :: (h.a.map U8 ++ (h.b.map U8 ++ h.c.map U8))) rfl
theorem Hd.c1 {h : Hd} : ∀ j v, [U64 h.p][j]? = some v → h.cs[1 + j]? = some v := mid_at (pre := [U64 h.s]) (post := h.a.map U8 ++ (h.b.map U8 ++ h.c.map U8)) rfl
theorem rhd_p (h : Hd) (hk : h.Ok) (w : World) (hw : Gt w) : Calls Tryd.prog 10 [.agg h.cs.toArray].toArray w (fun e w' => e = .returned (.agg ((h.rt).map U8).toArray) ∧ Grow w w') := by
  have hGF : BOk Gt (pl w) := gt_low.plain hw
  refine calls_of_X (G := Gt) Tryd.func10 rfl rfl (Hp (pl w) []) (hp_refl (pl w) trivial rides_true) (good_hp hGF) ?_
  refine xs_plain (E := EE [2999998]) ?_
  refine lx_boxr 1 hGF rfl rfl rfl ?_
  intro b1
  refine lx_allocr 2 hGF zv24 rfl rfl ?_
  intro b2
  refine lx_nil ?_
  refine xs_drawn (E := EE [2999998]) mixed (by kernel_rfl) (by kernel_rfl) (by kernel_rfl) ?_
  refine lx_fak 0 rfl Tryd.underlying26 rfl Tryd.sizeOf22 (by decide) rfl rfl rfl ?_
  refine lx_load (v := U64 h.s) rfl Tryd.isAgg22 (fun w' hw' => by have := (hp_row (n := 1) rfl w' hw') _ _ (Hd.c0 0 _ rfl); exact this) rfl rfl ?_
  refine lx_callC rfl rfl ent33 (fun w' hw' hG => chn_calls h.s w' hG) rfl rfl ?_
  rw [show pad32 (le8 h.s 8) = nR h.s from rfl]
  obtain ⟨r5, hr5⟩ : ∃ x, x = nR h.s := ⟨_, rfl⟩
  rw [← hr5]
  have hl5 : r5.length = 32 := by rw [hr5]; exact nR_len _
  refine lx_fak 1 rfl Tryd.underlying26 rfl Tryd.sizeOf22 (by decide) rfl rfl rfl ?_
  refine lx_load (v := U64 h.p) rfl Tryd.isAgg22 (fun w' hw' => by have := (hp_row (n := 1) rfl w' hw') _ _ (Hd.c1 0 _ rfl); exact this) rfl rfl ?_
  refine lx_callC rfl rfl ent33 (fun w' hw' hG => chn_calls h.p w' hG) rfl rfl ?_
  rw [show pad32 (le8 h.p 8) = nR h.p from rfl]
  obtain ⟨r8, hr8⟩ : ∃ x, x = nR h.p := ⟨_, rfl⟩
  rw [← hr8]
  have hl8 : r8.length = 32 := by rw [hr8]; exact nR_len _
  refine lx_fak 2 rfl Tryd.underlying26 rfl Tryd.sizeOf24 (by decide) rfl rfl rfl ?_
  refine lx_loadr (cs := h.a.map U8) rfl Tryd.isAgg24 Tryd.sizeOf24 (by rw [List.length_map]; exact hk.a) (fun w' hw' j v hv => by have := (hp_row (n := 1) rfl w' hw') _ v (Hd.at_a j v hv); rwa [Nat.zero_add] at this) rfl rfl ?_
  refine lx_fak 34 rfl Tryd.underlying26 rfl Tryd.sizeOf24 (by decide) rfl rfl rfl ?_
  refine lx_loadr (cs := h.b.map U8) rfl Tryd.isAgg24 Tryd.sizeOf24 (by rw [List.length_map]; exact hk.b) (fun w' hw' j v hv => by have := (hp_row (n := 1) rfl w' hw') _ v ((Hd.at_b hk) j v hv); rwa [Nat.zero_add] at this) rfl rfl ?_
  refine lx_fak 66 rfl Tryd.underlying26 rfl Tryd.sizeOf24 (by decide) rfl rfl rfl ?_
  refine lx_loadr (cs := h.c.map U8) rfl Tryd.isAgg24 Tryd.sizeOf24 (by rw [List.length_map]; exact hk.c) (fun w' hw' j v hv => by have := (hp_row (n := 1) rfl w' hw') _ v ((Hd.at_c hk) j v hv); rwa [Nat.zero_add] at this) rfl rfl ?_
  refine lx_bslWG (uf := U8) (s := 32) 15 (fun i => ([r5, r8, h.a, h.b, h.c]).getD i []) (List.replicate 32 0#8) hGF rfl rfl rfl (fun i hi => (all1 hl5 (all1 hl8 (all1 hk.a (all1 hk.b (all1 hk.c all0))))) _ (mem_get hi)) (by decide) (by decide) Tryd.underlying60 Tryd.sizeOf23 rfl zv23 rfl rfl ?_
  intro b15
  rw [show RW 32 (fun i => ([r5, r8, h.a, h.b, h.c]).getD i []) 5 = ([r5, r8, h.a, h.b, h.c]).flatten from RW_list ([r5, r8, h.a, h.b, h.c]) (all1 hl5 (all1 hl8 (all1 hk.a (all1 hk.b (all1 hk.c all0)))))]
  refine lx_callC rfl rfl ent32 (fun w' hw' hG => root_calls [r5, r8, h.a, h.b, h.c] (all1 hl5 (all1 hl8 (all1 hk.a (all1 hk.b (all1 hk.c all0))))) (by show 5 ≤ 65536; decide) _ 5 w' hG (own_rts (n := 15) (all1 hl5 (all1 hl8 (all1 hk.a (all1 hk.b (all1 hk.c all0))))) rfl (List.take_of_length_le (by rw [List.length_map, flat_len _ (all1 hl5 (all1 hl8 (all1 hk.a (all1 hk.b (all1 hk.c all0)))))]; exact Nat.le_refl _)) w' hw')) rfl rfl ?_
  refine lx_storea 2 hGF rfl rfl rfl Tryd.sizeOf24 (by rw [List.length_map]; exact tor_len (all1 hl5 (all1 hl8 (all1 hk.a (all1 hk.b (all1 hk.c all0)))))) (by rw [List.length_map]; exact Z0_len) (one_u8 _) rfl ?_
  refine lx_nil ?_
  refine x_ret ?_
  repeat (first | refine kseq_ret ?_ | refine kblk_ret ?_)
  exact kret_own 2 rfl rfl rfl Tryd.isAgg24 Tryd.sizeOf24 (by rw [List.length_map]; exact tor_len (all1 hl5 (all1 hl8 (all1 hk.a (all1 hk.b (all1 hk.c all0)))))) (fun w' hw' => ⟨by rw [hr5, hr8]; rfl, hp_below hw'⟩)
theorem rco_p (c : Co) (hk : c.Ok) (hn : c.ks.length ≤ 1000) (w : World) (hw : Gt w) (hks : RwsAt 48 w c.ka c.ks) : Calls Tryd.prog 12 [.agg c.cs.toArray].toArray w (fun e w' => e = .returned (.agg ((c.rt c.ks.length).map U8).toArray) ∧ Grow w w') := by
  have hGF : BOk Gt (pl w) := gt_low.plain hw
  refine calls_of_X (G := Gt) Tryd.func12 rfl rfl (Hp (pl w) []) (hp_refl (pl w) trivial rides_true) (good_hp hGF) ?_
  refine xs_plain (E := EE [2999998]) ?_
  refine lx_boxr 1 hGF rfl rfl rfl ?_
  intro b1
  refine lx_allocr 2 hGF zv24 rfl rfl ?_
  intro b2
  refine lx_nil ?_
  refine xs_drawn (E := EE [2999998]) mixed (by kernel_rfl) (by kernel_rfl) (by kernel_rfl) ?_
  refine lx_fak 0 rfl Tryd.underlying31 rfl Tryd.sizeOf27 (by decide) rfl rfl rfl ?_
  refine lx_load (v := .slice c.ka c.ks.length c.kc) rfl Tryd.isAgg27 (fun w' hw' => by have := (hp_row (n := 1) rfl w' hw') _ _ (Co.a0 0 _ rfl); exact this) rfl rfl ?_
  refine lx_callC rfl rfl ent35 (fun w' hw' hG => keys_calls c.ks hk.ks hn c.ka c.kc w' hG (hks.grow (hp_below hw'))) rfl rfl ?_
  obtain ⟨r5, hr5⟩ : ∃ x, x = Tor (krs c.ks c.ks.length) := ⟨_, rfl⟩
  rw [← hr5]
  have hl5 : r5.length = 32 := by rw [hr5]; exact tor_len (krs_all _ _)
  refine lx_fak 1 rfl Tryd.underlying31 rfl Tryd.sizeOf29 (by decide) rfl rfl rfl ?_
  refine lx_loadr (cs := c.sum.map U8) rfl Tryd.isAgg29 Tryd.sizeOf29 (by rw [List.length_map]; exact hk.sum) (fun w' hw' j v hv => by have := (hp_row (n := 1) rfl w' hw') _ v (Co.a_sum j v hv); rwa [Nat.zero_add] at this) rfl rfl ?_
  refine lx_callC rfl rfl ent22 (fun w' hw' hG => rky_p c.sum hk.sum w' hG) rfl rfl ?_
  obtain ⟨r8, hr8⟩ : ∃ x, x = BR8 c.sum := ⟨_, rfl⟩
  rw [← hr8]
  have hl8 : r8.length = 32 := by rw [hr8]; exact BR8_len _
  refine lx_bslWG (uf := U8) (s := 32) 9 (fun i => ([r5, r8]).getD i []) (List.replicate 32 0#8) hGF rfl rfl rfl (fun i hi => (all1 hl5 (all1 hl8 all0)) _ (mem_get hi)) (by decide) (by decide) Tryd.underlying60 Tryd.sizeOf23 rfl zv23 rfl rfl ?_
  intro b9
  rw [show RW 32 (fun i => ([r5, r8]).getD i []) 2 = ([r5, r8]).flatten from RW_list ([r5, r8]) (all1 hl5 (all1 hl8 all0))]
  refine lx_callC rfl rfl ent32 (fun w' hw' hG => root_calls [r5, r8] (all1 hl5 (all1 hl8 all0)) (by show 2 ≤ 65536; decide) _ 2 w' hG (own_rts (n := 9) (all1 hl5 (all1 hl8 all0)) rfl (List.take_of_length_le (by rw [List.length_map, flat_len _ (all1 hl5 (all1 hl8 all0))]; exact Nat.le_refl _)) w' hw')) rfl rfl ?_
  refine lx_storea 2 hGF rfl rfl rfl Tryd.sizeOf24 (by rw [List.length_map]; exact tor_len (all1 hl5 (all1 hl8 all0))) (by rw [List.length_map]; exact Z0_len) (one_u8 _) rfl ?_
  refine lx_nil ?_
  refine x_ret ?_
  repeat (first | refine kseq_ret ?_ | refine kblk_ret ?_)
  exact kret_own 2 rfl rfl rfl Tryd.isAgg24 Tryd.sizeOf24 (by rw [List.length_map]; exact tor_len (all1 hl5 (all1 hl8 all0))) (fun w' hw' => ⟨by rw [hr5, hr8]; rfl, hp_below hw'⟩)
theorem rag_p (s : Ag) (hk : s.Ok) (hn : s.bs.length ≤ 1000) (w : World) (hw : Gt w) (hbs : CellsAt w s.ba (s.bs.map .bool)) : Calls Tryd.prog 24 [.agg s.cs.toArray].toArray w (fun e w' => e = .returned (.agg ((s.rt).map U8).toArray) ∧ Grow w w') := by
  have hGF : BOk Gt (pl w) := gt_low.plain hw
  refine calls_of_X (G := Gt) Tryd.func24 rfl rfl (Hp (pl w) []) (hp_refl (pl w) trivial rides_true) (good_hp hGF) ?_
  refine xs_plain (E := EE [2999998]) ?_
  refine lx_boxr 1 hGF rfl rfl rfl ?_
  intro b1
  refine lx_allocr 2 hGF zv24 rfl rfl ?_
  intro b2
  refine lx_nil ?_
  refine xs_drawn (E := EE [2999998]) mixed (by kernel_rfl) (by kernel_rfl) (by kernel_rfl) ?_
  refine lx_fak 0 rfl Tryd.underlying38 rfl Tryd.sizeOf34 (by decide) rfl rfl rfl ?_
  refine lx_load (v := .slice s.ba s.bs.length s.bc) rfl Tryd.isAgg34 (fun w' hw' => by have := (hp_row (n := 1) rfl w' hw') _ _ (Ag.a0 0 _ rfl); exact this) rfl rfl ?_
  refine lx_callC rfl rfl ent42 (fun w' hw' hG => bts_calls s.bs s.ba s.bc hn w' hG (cells_grow hbs (hp_below hw'))) rfl rfl ?_
  obtain ⟨r5, hr5⟩ : ∃ x, x = BR8 (pb s.bs s.bs.length) := ⟨_, rfl⟩
  rw [← hr5]
  have hl5 : r5.length = 32 := by rw [hr5]; exact BR8_len _
  refine lx_fak 1 rfl Tryd.underlying38 rfl Tryd.sizeOf36 (by decide) rfl rfl rfl ?_
  refine lx_slarr0 rfl Tryd.underlying36 Tryd.sizeOf5 (by decide) rfl rfl ?_
  refine lx_callC rfl rfl ent40 (fun w' hw' hG => by rw [show (96 : Nat) = s.sig.length from hk.sig.symm]; exact oct_calls s.sig (by rw [hk.sig]; decide) _ _ (Nat.le_refl _) w' hG (BytesAt.sub_row (hp_row (n := 1) rfl w' hw') Ag.a_sig)) rfl rfl ?_
  obtain ⟨r8, hr8⟩ : ∃ x, x = BR8 s.sig := ⟨_, rfl⟩
  rw [← hr8]
  have hl8 : r8.length = 32 := by rw [hr8]; exact BR8_len _
  refine lx_bslWG (uf := U8) (s := 32) 9 (fun i => ([r5, r8]).getD i []) (List.replicate 32 0#8) hGF rfl rfl rfl (fun i hi => (all1 hl5 (all1 hl8 all0)) _ (mem_get hi)) (by decide) (by decide) Tryd.underlying60 Tryd.sizeOf23 rfl zv23 rfl rfl ?_
  intro b9
  rw [show RW 32 (fun i => ([r5, r8]).getD i []) 2 = ([r5, r8]).flatten from RW_list ([r5, r8]) (all1 hl5 (all1 hl8 all0))]
  refine lx_callC rfl rfl ent32 (fun w' hw' hG => root_calls [r5, r8] (all1 hl5 (all1 hl8 all0)) (by show 2 ≤ 65536; decide) _ 2 w' hG (own_rts (n := 9) (all1 hl5 (all1 hl8 all0)) rfl (List.take_of_length_le (by rw [List.length_map, flat_len _ (all1 hl5 (all1 hl8 all0))]; exact Nat.le_refl _)) w' hw')) rfl rfl ?_
  refine lx_storea 2 hGF rfl rfl rfl Tryd.sizeOf24 (by rw [List.length_map]; exact tor_len (all1 hl5 (all1 hl8 all0))) (by rw [List.length_map]; exact Z0_len) (one_u8 _) rfl ?_
  refine lx_nil ?_
  refine x_ret ?_
  repeat (first | refine kseq_ret ?_ | refine kblk_ret ?_)
  exact kret_own 2 rfl rfl rfl Tryd.isAgg24 Tryd.sizeOf24 (by rw [List.length_map]; exact tor_len (all1 hl5 (all1 hl8 all0))) (fun w' hw' => ⟨by rw [hr5, hr8]; rfl, hp_below hw'⟩)
theorem rop_p (u : Up) (hk : u.Ok) (hn : u.sy.bs.length ≤ 1000) (w : World) (hw : Gt w) (hbs : CellsAt w u.sy.ba (u.sy.bs.map .bool)) : Calls Tryd.prog 18 [.agg u.cs.toArray].toArray w (fun e w' => e = .returned (.agg ((Tor u.fo).map U8).toArray) ∧ Grow w w') := by
  have hGF : BOk Gt (pl w) := gt_low.plain hw
  refine calls_of_X (G := Gt) Tryd.func18 rfl rfl (Hp (pl w) []) (hp_refl (pl w) trivial rides_true) (good_hp hGF) ?_
  refine xs_plain (E := EE [2999998]) ?_
  refine lx_boxr 1 hGF rfl rfl rfl ?_
  intro b1
  refine lx_allocr 2 hGF zv24 rfl rfl ?_
  intro b2
  refine lx_nil ?_
  refine xs_drawn (E := EE [2999998]) mixed (by kernel_rfl) (by kernel_rfl) (by kernel_rfl) ?_
  refine lx_fak 0 rfl Tryd.underlying40 rfl Tryd.sizeOf26 (by decide) rfl rfl rfl ?_
  refine lx_loadr (cs := u.at_.cs) rfl Tryd.isAgg26 Tryd.sizeOf26 (Hd.len hk.at_) (fun w' hw' j v hv => by have := (hp_row (n := 1) rfl w' hw') _ v (Up.l1 j v hv); rwa [Nat.zero_add] at this) rfl rfl ?_
  refine lx_callC rfl rfl ent10 (fun w' hw' hG => rhd_p u.at_ hk.at_ w' hG) rfl rfl ?_
  obtain ⟨r5, hr5⟩ : ∃ x, x = u.at_.rt := ⟨_, rfl⟩
  rw [← hr5]
  have hl5 : r5.length = 32 := by rw [hr5]; exact Hd.rt_len hk.at_
  refine lx_fak 597 rfl Tryd.underlying40 rfl Tryd.sizeOf38 (by decide) rfl rfl rfl ?_
  refine lx_loadr (cs := u.sy.cs) rfl Tryd.isAgg38 Tryd.sizeOf38 (Ag.len hk.sy) (fun w' hw' j v hv => by have := (hp_row (n := 1) rfl w' hw') _ v (Up.l6 hk j v hv); rwa [Nat.zero_add] at this) rfl rfl ?_
  refine lx_callC rfl rfl ent24 (fun w' hw' hG => rag_p u.sy hk.sy hn w' hG (cells_grow hbs (hp_below hw'))) rfl rfl ?_
  obtain ⟨r8, hr8⟩ : ∃ x, x = u.sy.rt := ⟨_, rfl⟩
  rw [← hr8]
  have hl8 : r8.length = 32 := by rw [hr8]; exact Ag.rt_len _
  refine lx_fak 694 rfl Tryd.underlying40 rfl Tryd.sizeOf22 (by decide) rfl rfl rfl ?_
  refine lx_load (v := U64 u.sl) rfl Tryd.isAgg22 (fun w' hw' => by have := (hp_row (n := 1) rfl w' hw') _ _ (Up.l7 hk 0 _ rfl); exact this) rfl rfl ?_
  refine lx_callC rfl rfl ent33 (fun w' hw' hG => chn_calls u.sl w' hG) rfl rfl ?_
  rw [show pad32 (le8 u.sl 8) = nR u.sl from rfl]
  obtain ⟨r11, hr11⟩ : ∃ x, x = nR u.sl := ⟨_, rfl⟩
  rw [← hr11]
  have hl11 : r11.length = 32 := by rw [hr11]; exact nR_len _
  refine lx_bslWG (uf := U8) (s := 32) 12 (fun i => ([r5, r8, r11]).getD i []) (List.replicate 32 0#8) hGF rfl rfl rfl (fun i hi => (all1 hl5 (all1 hl8 (all1 hl11 all0))) _ (mem_get hi)) (by decide) (by decide) Tryd.underlying60 Tryd.sizeOf23 rfl zv23 rfl rfl ?_
  intro b12
  rw [show RW 32 (fun i => ([r5, r8, r11]).getD i []) 3 = ([r5, r8, r11]).flatten from RW_list ([r5, r8, r11]) (all1 hl5 (all1 hl8 (all1 hl11 all0)))]
  refine lx_callC rfl rfl ent32 (fun w' hw' hG => root_calls [r5, r8, r11] (all1 hl5 (all1 hl8 (all1 hl11 all0))) (by show 3 ≤ 65536; decide) _ 3 w' hG (own_rts (n := 12) (all1 hl5 (all1 hl8 (all1 hl11 all0))) rfl (List.take_of_length_le (by rw [List.length_map, flat_len _ (all1 hl5 (all1 hl8 (all1 hl11 all0)))]; exact Nat.le_refl _)) w' hw')) rfl rfl ?_
  refine lx_storea 2 hGF rfl rfl rfl Tryd.sizeOf24 (by rw [List.length_map]; exact tor_len (all1 hl5 (all1 hl8 (all1 hl11 all0)))) (by rw [List.length_map]; exact Z0_len) (one_u8 _) rfl ?_
  refine lx_nil ?_
  refine x_ret ?_
  repeat (first | refine kseq_ret ?_ | refine kblk_ret ?_)
  exact kret_own 2 rfl rfl rfl Tryd.isAgg24 Tryd.sizeOf24 (by rw [List.length_map]; exact tor_len (all1 hl5 (all1 hl8 (all1 hl11 all0)))) (fun w' hw' => ⟨by rw [hr5, hr8, hr11]; rfl, hp_below hw'⟩)
theorem rfi_p (u : Up) (hk : u.Ok) (hn : u.sy.bs.length ≤ 1000) (w : World) (hw : Gt w) (hbs : CellsAt w u.sy.ba (u.sy.bs.map .bool)) : Calls Tryd.prog 16 [.agg u.cs.toArray].toArray w (fun e w' => e = .returned (.agg ((Tor u.ff).map U8).toArray) ∧ Grow w w') := by
  have hGF : BOk Gt (pl w) := gt_low.plain hw
  refine calls_of_X (G := Gt) Tryd.func16 rfl rfl (Hp (pl w) []) (hp_refl (pl w) trivial rides_true) (good_hp hGF) ?_
  refine xs_plain (E := EE [2999998]) ?_
  refine lx_boxr 1 hGF rfl rfl rfl ?_
  intro b1
  refine lx_allocr 2 hGF zv24 rfl rfl ?_
  intro b2
  refine lx_nil ?_
  refine xs_drawn (E := EE [2999998]) mixed (by kernel_rfl) (by kernel_rfl) (by kernel_rfl) ?_
  refine lx_fak 0 rfl Tryd.underlying40 rfl Tryd.sizeOf26 (by decide) rfl rfl rfl ?_
  refine lx_loadr (cs := u.at_.cs) rfl Tryd.isAgg26 Tryd.sizeOf26 (Hd.len hk.at_) (fun w' hw' j v hv => by have := (hp_row (n := 1) rfl w' hw') _ v (Up.l1 j v hv); rwa [Nat.zero_add] at this) rfl rfl ?_
  refine lx_callC rfl rfl ent10 (fun w' hw' hG => rhd_p u.at_ hk.at_ w' hG) rfl rfl ?_
  obtain ⟨r5, hr5⟩ : ∃ x, x = u.at_.rt := ⟨_, rfl⟩
  rw [← hr5]
  have hl5 : r5.length = 32 := by rw [hr5]; exact Hd.rt_len hk.at_
  refine lx_fak 307 rfl Tryd.underlying40 rfl Tryd.sizeOf26 (by decide) rfl rfl rfl ?_
  refine lx_loadr (cs := u.fi.cs) rfl Tryd.isAgg26 Tryd.sizeOf26 (Hd.len hk.fi) (fun w' hw' j v hv => by have := (hp_row (n := 1) rfl w' hw') _ v (Up.l4 hk j v hv); rwa [Nat.zero_add] at this) rfl rfl ?_
  refine lx_callC rfl rfl ent10 (fun w' hw' hG => rhd_p u.fi hk.fi w' hG) rfl rfl ?_
  obtain ⟨r8, hr8⟩ : ∃ x, x = u.fi.rt := ⟨_, rfl⟩
  rw [← hr8]
  have hl8 : r8.length = 32 := by rw [hr8]; exact Hd.rt_len hk.fi
  refine lx_fak 405 rfl Tryd.underlying40 rfl Tryd.sizeOf33 (by decide) rfl rfl rfl ?_
  refine lx_slarr0 rfl Tryd.underlying33 Tryd.sizeOf24 (by decide) rfl rfl ?_
  refine lx_callC rfl rfl ent38 (fun w' hw' hG => brn_n u.fy 6 hk.fy (by decide) _ w' hG (BytesAt.sub_row (hp_row (n := 1) rfl w' hw') (Up.l5 hk))) rfl rfl ?_
  obtain ⟨r11, hr11⟩ : ∃ x, x = Tor (cut32 u.fy 6) := ⟨_, rfl⟩
  rw [← hr11]
  have hl11 : r11.length = 32 := by rw [hr11]; exact tor_len (cut32_all hk.fy)
  refine lx_fak 597 rfl Tryd.underlying40 rfl Tryd.sizeOf38 (by decide) rfl rfl rfl ?_
  refine lx_loadr (cs := u.sy.cs) rfl Tryd.isAgg38 Tryd.sizeOf38 (Ag.len hk.sy) (fun w' hw' j v hv => by have := (hp_row (n := 1) rfl w' hw') _ v (Up.l6 hk j v hv); rwa [Nat.zero_add] at this) rfl rfl ?_
  refine lx_callC rfl rfl ent24 (fun w' hw' hG => rag_p u.sy hk.sy hn w' hG (cells_grow hbs (hp_below hw'))) rfl rfl ?_
  obtain ⟨r14, hr14⟩ : ∃ x, x = u.sy.rt := ⟨_, rfl⟩
  rw [← hr14]
  have hl14 : r14.length = 32 := by rw [hr14]; exact Ag.rt_len _
  refine lx_fak 694 rfl Tryd.underlying40 rfl Tryd.sizeOf22 (by decide) rfl rfl rfl ?_
  refine lx_load (v := U64 u.sl) rfl Tryd.isAgg22 (fun w' hw' => by have := (hp_row (n := 1) rfl w' hw') _ _ (Up.l7 hk 0 _ rfl); exact this) rfl rfl ?_
  refine lx_callC rfl rfl ent33 (fun w' hw' hG => chn_calls u.sl w' hG) rfl rfl ?_
  rw [show pad32 (le8 u.sl 8) = nR u.sl from rfl]
  obtain ⟨r17, hr17⟩ : ∃ x, x = nR u.sl := ⟨_, rfl⟩
  rw [← hr17]
  have hl17 : r17.length = 32 := by rw [hr17]; exact nR_len _
  refine lx_bslWG (uf := U8) (s := 32) 18 (fun i => ([r5, r8, r11, r14, r17]).getD i []) (List.replicate 32 0#8) hGF rfl rfl rfl (fun i hi => (all1 hl5 (all1 hl8 (all1 hl11 (all1 hl14 (all1 hl17 all0))))) _ (mem_get hi)) (by decide) (by decide) Tryd.underlying60 Tryd.sizeOf23 rfl zv23 rfl rfl ?_
  intro b18
  rw [show RW 32 (fun i => ([r5, r8, r11, r14, r17]).getD i []) 5 = ([r5, r8, r11, r14, r17]).flatten from RW_list ([r5, r8, r11, r14, r17]) (all1 hl5 (all1 hl8 (all1 hl11 (all1 hl14 (all1 hl17 all0)))))]
  refine lx_callC rfl rfl ent32 (fun w' hw' hG => root_calls [r5, r8, r11, r14, r17] (all1 hl5 (all1 hl8 (all1 hl11 (all1 hl14 (all1 hl17 all0))))) (by show 5 ≤ 65536; decide) _ 5 w' hG (own_rts (n := 18) (all1 hl5 (all1 hl8 (all1 hl11 (all1 hl14 (all1 hl17 all0))))) rfl (List.take_of_length_le (by rw [List.length_map, flat_len _ (all1 hl5 (all1 hl8 (all1 hl11 (all1 hl14 (all1 hl17 all0)))))]; exact Nat.le_refl _)) w' hw')) rfl rfl ?_
  refine lx_storea 2 hGF rfl rfl rfl Tryd.sizeOf24 (by rw [List.length_map]; exact tor_len (all1 hl5 (all1 hl8 (all1 hl11 (all1 hl14 (all1 hl17 all0)))))) (by rw [List.length_map]; exact Z0_len) (one_u8 _) rfl ?_
  refine lx_nil ?_
  refine x_ret ?_
  repeat (first | refine kseq_ret ?_ | refine kblk_ret ?_)
  exact kret_own 2 rfl rfl rfl Tryd.isAgg24 Tryd.sizeOf24 (by rw [List.length_map]; exact tor_len (all1 hl5 (all1 hl8 (all1 hl11 (all1 hl14 (all1 hl17 all0)))))) (fun w' hw' => ⟨by rw [hr5, hr8, hr11, hr14, hr17]; rfl, hp_below hw'⟩)
theorem rbo_p (b : Bo) (hk : b.Ok) (hn : b.nw.ks.length ≤ 1000) (w : World) (hw : Gt w) (hks : RwsAt 48 w b.nw.ka b.nw.ks) : Calls Tryd.prog 20 [.agg b.cs.toArray].toArray w (fun e w' => e = .returned (.agg ((Tor b.fs).map U8).toArray) ∧ Grow w w') := by
  have hGF : BOk Gt (pl w) := gt_low.plain hw
  refine calls_of_X (G := Gt) Tryd.func20 rfl rfl (Hp (pl w) []) (hp_refl (pl w) trivial rides_true) (good_hp hGF) ?_
  refine xs_plain (E := EE [2999998]) ?_
  refine lx_boxr 1 hGF rfl rfl rfl ?_
  intro b1
  refine lx_allocr 2 hGF zv24 rfl rfl ?_
  intro b2
  refine lx_nil ?_
  refine xs_drawn (E := EE [2999998]) mixed (by kernel_rfl) (by kernel_rfl) (by kernel_rfl) ?_
  refine lx_fak 0 rfl Tryd.underlying42 rfl Tryd.sizeOf26 (by decide) rfl rfl rfl ?_
  refine lx_loadr (cs := b.hd.cs) rfl Tryd.isAgg26 Tryd.sizeOf26 (Hd.len hk.hd) (fun w' hw' j v hv => by have := (hp_row (n := 1) rfl w' hw') _ v (Bo.l1 j v hv); rwa [Nat.zero_add] at this) rfl rfl ?_
  refine lx_callC rfl rfl ent10 (fun w' hw' hG => rhd_p b.hd hk.hd w' hG) rfl rfl ?_
  obtain ⟨r5, hr5⟩ : ∃ x, x = b.hd.rt := ⟨_, rfl⟩
  rw [← hr5]
  have hl5 : r5.length = 32 := by rw [hr5]; exact Hd.rt_len hk.hd
  refine lx_fak 98 rfl Tryd.underlying42 rfl Tryd.sizeOf31 (by decide) rfl rfl rfl ?_
  refine lx_loadr (cs := b.nw.cs) rfl Tryd.isAgg31 Tryd.sizeOf31 (Co.len hk.nw) (fun w' hw' j v hv => by have := (hp_row (n := 1) rfl w' hw') _ v (Bo.l2 hk j v hv); rwa [Nat.zero_add] at this) rfl rfl ?_
  refine lx_callC rfl rfl ent12 (fun w' hw' hG => rco_p b.nw hk.nw hn w' hG (hks.grow (hp_below hw'))) rfl rfl ?_
  obtain ⟨r8, hr8⟩ : ∃ x, x = b.nw.rt b.nw.ks.length := ⟨_, rfl⟩
  rw [← hr8]
  have hl8 : r8.length = 32 := by rw [hr8]; exact Co.rt_len _ _
  refine lx_fak 147 rfl Tryd.underlying42 rfl Tryd.sizeOf32 (by decide) rfl rfl rfl ?_
  refine lx_slarr0 rfl Tryd.underlying32 Tryd.sizeOf24 (by decide) rfl rfl ?_
  refine lx_callC rfl rfl ent38 (fun w' hw' hG => brn_n b.br 5 hk.br (by decide) _ w' hG (BytesAt.sub_row (hp_row (n := 1) rfl w' hw') (Bo.l3 hk))) rfl rfl ?_
  obtain ⟨r11, hr11⟩ : ∃ x, x = Tor (cut32 b.br 5) := ⟨_, rfl⟩
  rw [← hr11]
  have hl11 : r11.length = 32 := by rw [hr11]; exact tor_len (cut32_all hk.br)
  refine lx_bslWG (uf := U8) (s := 32) 12 (fun i => ([r5, r8, r11]).getD i []) (List.replicate 32 0#8) hGF rfl rfl rfl (fun i hi => (all1 hl5 (all1 hl8 (all1 hl11 all0))) _ (mem_get hi)) (by decide) (by decide) Tryd.underlying60 Tryd.sizeOf23 rfl zv23 rfl rfl ?_
  intro b12
  rw [show RW 32 (fun i => ([r5, r8, r11]).getD i []) 3 = ([r5, r8, r11]).flatten from RW_list ([r5, r8, r11]) (all1 hl5 (all1 hl8 (all1 hl11 all0)))]
  refine lx_callC rfl rfl ent32 (fun w' hw' hG => root_calls [r5, r8, r11] (all1 hl5 (all1 hl8 (all1 hl11 all0))) (by show 3 ≤ 65536; decide) _ 3 w' hG (own_rts (n := 12) (all1 hl5 (all1 hl8 (all1 hl11 all0))) rfl (List.take_of_length_le (by rw [List.length_map, flat_len _ (all1 hl5 (all1 hl8 (all1 hl11 all0)))]; exact Nat.le_refl _)) w' hw')) rfl rfl ?_
  refine lx_storea 2 hGF rfl rfl rfl Tryd.sizeOf24 (by rw [List.length_map]; exact tor_len (all1 hl5 (all1 hl8 (all1 hl11 all0)))) (by rw [List.length_map]; exact Z0_len) (one_u8 _) rfl ?_
  refine lx_nil ?_
  refine x_ret ?_
  repeat (first | refine kseq_ret ?_ | refine kblk_ret ?_)
  exact kret_own 2 rfl rfl rfl Tryd.isAgg24 Tryd.sizeOf24 (by rw [List.length_map]; exact tor_len (all1 hl5 (all1 hl8 (all1 hl11 all0)))) (fun w' hw' => ⟨by rw [hr5, hr8, hr11]; rfl, hp_below hw'⟩)
theorem rup_p (u : Up) (hk : u.Ok) (hn : u.sy.bs.length ≤ 1000) (w : World) (hw : Gt w) (hks : RwsAt 48 w u.nx.ka u.nx.ks) (hbs : CellsAt w u.sy.ba (u.sy.bs.map .bool)) : Calls Tryd.prog 14 [.agg u.cs.toArray].toArray w (fun e w' => e = .returned (.agg ((Tor u.fs).map U8).toArray) ∧ Grow w w') := by
  have hGF : BOk Gt (pl w) := gt_low.plain hw
  refine calls_of_X (G := Gt) Tryd.func14 rfl rfl (Hp (pl w) []) (hp_refl (pl w) trivial rides_true) (good_hp hGF) ?_
  refine xs_plain (E := EE [37, 2000037, 2999998]) ?_
  refine lx_boxr 1 hGF rfl rfl rfl ?_
  intro b1
  refine lx_allocr 2 hGF zv24 rfl rfl ?_
  intro b2
  refine lx_nil ?_
  refine xs_draws (E := EE [37, 2000037, 2999998]) [0, 1, 2, 3, 4, 5, 6, 7, 8, 11, 12, 14, 15, 17, 18, 20, 21, 23, 24, 9, 10, 13, 16, 19, 22, 25, 26, 27, 28] mixed rfl (by kernel_rfl) (by kernel_rfl) (by kernel_rfl) ?_
  refine lx_fak 0 rfl Tryd.underlying40 rfl Tryd.sizeOf26 (by decide) rfl rfl rfl ?_
  refine lx_loadr (cs := u.at_.cs) rfl Tryd.isAgg26 Tryd.sizeOf26 (Hd.len hk.at_) (fun w' hw' j v hv => by have := (hp_row (n := 1) rfl w' hw') _ v (Up.l1 j v hv); rwa [Nat.zero_add] at this) rfl rfl ?_
  refine lx_callC rfl rfl ent10 (fun w' hw' hG => rhd_p u.at_ hk.at_ w' hG) rfl rfl ?_
  obtain ⟨r5, hr5⟩ : ∃ x, x = u.at_.rt := ⟨_, rfl⟩
  rw [← hr5]
  have hl5 : r5.length = 32 := by rw [hr5]; exact Hd.rt_len hk.at_
  refine lx_fak 98 rfl Tryd.underlying40 rfl Tryd.sizeOf31 (by decide) rfl rfl rfl ?_
  refine lx_loadr (cs := u.nx.cs) rfl Tryd.isAgg31 Tryd.sizeOf31 (Co.len hk.nx) (fun w' hw' j v hv => by have := (hp_row (n := 1) rfl w' hw') _ v (Up.l2 hk j v hv); rwa [Nat.zero_add] at this) rfl rfl ?_
  refine lx_fak 597 rfl Tryd.underlying40 rfl Tryd.sizeOf38 (by decide) rfl rfl rfl ?_
  refine lx_fak 597 rfl Tryd.underlying38 rfl Tryd.sizeOf34 (by decide) rfl rfl rfl ?_
  refine lx_load (v := .slice u.sy.ba u.sy.bs.length u.sy.bc) rfl Tryd.isAgg34 (fun w' hw' => by have := (hp_row (n := 1) rfl w' hw') _ _ (Up.ab hk 0 _ rfl); exact this) rfl rfl ?_
  refine lx_len rfl (fun _ => len_slice Tryd.underlying34 _ _ _ _) rfl rfl ?_
  refine lx_fak 147 rfl Tryd.underlying40 rfl Tryd.sizeOf32 (by decide) rfl rfl rfl ?_
  refine lx_slarr0 rfl Tryd.underlying32 Tryd.sizeOf24 (by decide) rfl rfl ?_
  refine lx_fak 307 rfl Tryd.underlying40 rfl Tryd.sizeOf26 (by decide) rfl rfl rfl ?_
  refine lx_loadr (cs := u.fi.cs) rfl Tryd.isAgg26 Tryd.sizeOf26 (Hd.len hk.fi) (fun w' hw' j v hv => by have := (hp_row (n := 1) rfl w' hw') _ v (Up.l4 hk j v hv); rwa [Nat.zero_add] at this) rfl rfl ?_
  refine lx_fak 405 rfl Tryd.underlying40 rfl Tryd.sizeOf33 (by decide) rfl rfl rfl ?_
  refine lx_slarr0 rfl Tryd.underlying33 Tryd.sizeOf24 (by decide) rfl rfl ?_
  refine lx_fak 597 rfl Tryd.underlying40 rfl Tryd.sizeOf38 (by decide) rfl rfl rfl ?_
  refine lx_loadr (cs := u.sy.cs) rfl Tryd.isAgg38 Tryd.sizeOf38 (Ag.len hk.sy) (fun w' hw' j v hv => by have := (hp_row (n := 1) rfl w' hw') _ v (Up.l6 hk j v hv); rwa [Nat.zero_add] at this) rfl rfl ?_
  refine lx_fak 694 rfl Tryd.underlying40 rfl Tryd.sizeOf22 (by decide) rfl rfl rfl ?_
  refine lx_load (v := U64 u.sl) rfl Tryd.isAgg22 (fun w' hw' => by have := (hp_row (n := 1) rfl w' hw') _ _ (Up.l7 hk 0 _ rfl); exact this) rfl rfl ?_
  refine lx_callG rfl rfl ent37 rfl rfl (fun w' hw' => (siz_calls u.nx hk.nx u.sy.bs.length hn w' (hGF.g _ _ _ hw') (hks.grow (hp_below hw'))).mono fun e1 w2 h => ?_)
  obtain ⟨b9, rfl, hg, hn9, ho9⟩ := h
  refine ⟨_, _, rfl, good_hp hGF, hw'.news rides_true hg [(12, b9, _, 29)] (row1 hn9 ho9) inj_one, hp_fresh rides_true rfl, ?_⟩
  clear hw' hg hn9 ho9
  refine lx_callC rfl rfl ent12 (fun w' hw' hG => by have := rco_p (u.nx.siz u.sy.bs.length b9) (Co.siz_ok hk.nx _ _) (by show (sizK _ _).length ≤ 1000; rw [siz_len]; exact hn) w' hG (rws_range (siz_48 hk.nx.ks _) (hp_row (n := 12) rfl w' hw')); rw [Co.siz_rt] at this; exact this) rfl rfl ?_
  obtain ⟨r13, hr13⟩ : ∃ x, x = u.nx.rt u.sy.bs.length := ⟨_, rfl⟩
  rw [← hr13]
  have hl13 : r13.length = 32 := by rw [hr13]; exact Co.rt_len _ _
  refine lx_callC rfl rfl ent38 (fun w' hw' hG => brn_n u.br 5 hk.br (by decide) _ w' hG (BytesAt.sub_row (hp_row (n := 1) rfl w' hw') (Up.l3 hk))) rfl rfl ?_
  obtain ⟨r16, hr16⟩ : ∃ x, x = Tor (cut32 u.br 5) := ⟨_, rfl⟩
  rw [← hr16]
  have hl16 : r16.length = 32 := by rw [hr16]; exact tor_len (cut32_all hk.br)
  refine lx_callC rfl rfl ent10 (fun w' hw' hG => rhd_p u.fi hk.fi w' hG) rfl rfl ?_
  obtain ⟨r19, hr19⟩ : ∃ x, x = u.fi.rt := ⟨_, rfl⟩
  rw [← hr19]
  have hl19 : r19.length = 32 := by rw [hr19]; exact Hd.rt_len hk.fi
  refine lx_callC rfl rfl ent38 (fun w' hw' hG => brn_n u.fy 6 hk.fy (by decide) _ w' hG (BytesAt.sub_row (hp_row (n := 1) rfl w' hw') (Up.l5 hk))) rfl rfl ?_
  obtain ⟨r22, hr22⟩ : ∃ x, x = Tor (cut32 u.fy 6) := ⟨_, rfl⟩
  rw [← hr22]
  have hl22 : r22.length = 32 := by rw [hr22]; exact tor_len (cut32_all hk.fy)
  refine lx_callC rfl rfl ent24 (fun w' hw' hG => rag_p u.sy hk.sy hn w' hG (cells_grow hbs (hp_below hw'))) rfl rfl ?_
  obtain ⟨r25, hr25⟩ : ∃ x, x = u.sy.rt := ⟨_, rfl⟩
  rw [← hr25]
  have hl25 : r25.length = 32 := by rw [hr25]; exact Ag.rt_len _
  refine lx_callC rfl rfl ent33 (fun w' hw' hG => chn_calls u.sl w' hG) rfl rfl ?_
  rw [show pad32 (le8 u.sl 8) = nR u.sl from rfl]
  obtain ⟨r28, hr28⟩ : ∃ x, x = nR u.sl := ⟨_, rfl⟩
  rw [← hr28]
  have hl28 : r28.length = 32 := by rw [hr28]; exact nR_len _
  refine lx_bslWG (uf := U8) (s := 32) 29 (fun i => ([r5, r13, r16, r19, r22, r25, r28]).getD i []) (List.replicate 32 0#8) hGF rfl rfl rfl (fun i hi => (all1 hl5 (all1 hl13 (all1 hl16 (all1 hl19 (all1 hl22 (all1 hl25 (all1 hl28 all0))))))) _ (mem_get hi)) (by decide) (by decide) Tryd.underlying60 Tryd.sizeOf23 rfl zv23 rfl rfl ?_
  intro b29
  rw [show RW 32 (fun i => ([r5, r13, r16, r19, r22, r25, r28]).getD i []) 7 = ([r5, r13, r16, r19, r22, r25, r28]).flatten from RW_list ([r5, r13, r16, r19, r22, r25, r28]) (all1 hl5 (all1 hl13 (all1 hl16 (all1 hl19 (all1 hl22 (all1 hl25 (all1 hl28 all0)))))))]
  refine lx_callC rfl rfl ent32 (fun w' hw' hG => root_calls [r5, r13, r16, r19, r22, r25, r28] (all1 hl5 (all1 hl13 (all1 hl16 (all1 hl19 (all1 hl22 (all1 hl25 (all1 hl28 all0))))))) (by show 7 ≤ 65536; decide) _ 7 w' hG (own_rts (n := 29) (all1 hl5 (all1 hl13 (all1 hl16 (all1 hl19 (all1 hl22 (all1 hl25 (all1 hl28 all0))))))) rfl (List.take_of_length_le (by rw [List.length_map, flat_len _ (all1 hl5 (all1 hl13 (all1 hl16 (all1 hl19 (all1 hl22 (all1 hl25 (all1 hl28 all0)))))))]; exact Nat.le_refl _)) w' hw')) rfl rfl ?_
  refine lx_storea 2 hGF rfl rfl rfl Tryd.sizeOf24 (by rw [List.length_map]; exact tor_len (all1 hl5 (all1 hl13 (all1 hl16 (all1 hl19 (all1 hl22 (all1 hl25 (all1 hl28 all0)))))))) (by rw [List.length_map]; exact Z0_len) (one_u8 _) rfl ?_
  refine lx_nil ?_
  refine x_ret ?_
  repeat (first | refine kseq_ret ?_ | refine kblk_ret ?_)
  exact kret_own 2 rfl rfl rfl Tryd.isAgg24 Tryd.sizeOf24 (by rw [List.length_map]; exact tor_len (all1 hl5 (all1 hl13 (all1 hl16 (all1 hl19 (all1 hl22 (all1 hl25 (all1 hl28 all0)))))))) (fun w' hw' => ⟨by rw [hr5, hr13, hr16, hr19, hr22, hr25, hr28]; rfl, hp_below hw'⟩)
theorem rp : RootsP where
  hd := rhd_p
  ky := rky_p
  co := rco_p
  ag := rag_p
  up := fun u hk _ hn w hw hks hbs => rup_p u hk hn w hw hks hbs
  fi := fun u hk hn w hw hbs => rfi_p u hk hn w hw hbs
  op := fun u hk hn w hw hbs => rop_p u hk hn w hw hbs
  bo := rbo_p
end Go.Proofs.YtldnceanfncdfaaDoor
