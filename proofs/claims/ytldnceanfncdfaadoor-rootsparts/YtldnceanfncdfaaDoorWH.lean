/-
  The laws of all containers' roots, and of their parts.
-/
import Derived.Test.YtldnceanfncdfaaDoorWG
namespace Go.Proofs.YtldnceanfncdfaaDoor
open Go.RowKit
set_option maxRecDepth 100000
set_option maxHeartbeats 1000000
open Sh
theorem rowN {w : World} {n b lo : Nat} {c : List Value} {t : TypeId} (h1 : lo ≤ b) (h2 : OwnB w b c t) : ∀ n' b' c' t', lkB [(n, b, c, t)] n' = some (b', c', t') → lo ≤ b' ∧ OwnB w b' c' t' := fun n' b' c' t' hl => by
  rcases lkB_cons hl with ⟨_, e⟩ | ⟨_, hl⟩
  · cases e; exact ⟨h1, h2⟩
  · cases hl
theorem Up.all {u : Up} : ∀ j v, u.cs[j]? = some v → u.cs[0 + j]? = some v := fun j v hv => by rw [Nat.zero_add]; exact hv
theorem Bo.all {b : Bo} : ∀ j v, b.cs[j]? = some v → b.cs[0 + j]? = some v := fun j v hv => by rw [Nat.zero_add]; exact hv
theorem Ag.all {a : Ag} : ∀ j v, a.cs[j]? = some v → a.cs[0 + j]? = some v := fun j v hv => by rw [Nat.zero_add]; exact hv
def Up.bits (u : Up) (L : List Bool) (a : Option Addr) (c : Nat) : Up := ⟨u.at_, u.nx, u.br, u.fi, u.fy, ⟨L, a, c, u.sy.sig⟩, u.sl⟩
theorem by8_all {k : By} : ∀ j v, (k.map U8)[j]? = some v → (k.map U8)[0 + j]? = some v := fun j v hv => by rw [Nat.zero_add]; exact hv
theorem parts_law (hR : RootsP) (k : By) (hk : k.length = 48) (s : Ag) (hs : s.Ok) (w : World) (hw : Gt w) (hbs : CellsAt w s.ba (s.bs.map .bool)) : Calls Tryd.prog 4 [.agg (k.map U8).toArray, .agg s.cs.toArray].toArray w (fun e w' => e = .returned (.bool true) ∧ Grow w w') := by
  have hGF : BOk Gt (pl w) := gt_low.plain hw
  refine calls_of_X (G := Gt) Tryd.func4 rfl rfl (Hp (pl w) []) (hp_refl (pl w) trivial rides_true) (good_hp hGF) ?_
  refine xs_plain (E := EE [9]) ?_
  refine lx_boxr 2 hGF rfl rfl rfl ?_
  intro b2
  refine lx_boxr 3 hGF rfl rfl rfl ?_
  intro b3
  refine lx_assign rfl rfl rfl ?_
  refine lx_nil ?_
  refine x_seq ?_
  refine xs_plain (E := EE [9]) ?_
  refine lx_callC rfl rfl ent7 (fun w1 _ hG => known20 hR w1 hG) rfl rfl ?_
  refine lx_un rfl (fun _ => un_not _) rfl rfl ?_
  refine lx_nil ?_
  refine x_false rfl ?_
  refine x_skip ?_
  refine x_seq ?_
  refine xs_plain (E := EE [9]) ?_
  refine lx_fak 0 rfl Tryd.underlying38 rfl Tryd.sizeOf34 (by decide) rfl rfl rfl ?_
  refine lx_load (v := .slice s.ba s.bs.length s.bc) rfl Tryd.isAgg34 (fun w' hw' => by have := (hp_row (n := 3) rfl w' hw') _ _ (Ag.a0 0 _ rfl); exact this) rfl rfl ?_
  refine lx_len rfl (fun _ => len_slice Tryd.underlying34 _ _ _ _) rfl rfl ?_
  rcases Nat.lt_or_ge 512 s.bs.length with hgt | hle
  · skip
    refine lx_binB true rfl rfl (fun _ => rfl) (fun _ => bin_gtr_i _ _ _) (by rw [decide_eq_true_eq]; omega) rfl rfl ?_
    refine lx_nil ?_
    refine x_true rfl ?_
    refine xs_plain (E := EE [9]) ?_
    refine lx_assign rfl rfl rfl ?_
    refine lx_nil ?_
    refine x_ret ?_
    repeat (first | refine kseq_ret ?_ | refine kblk_ret ?_)
    exact kret_tmp rfl rfl (fun w' hw' => ⟨rfl, hp_below hw'⟩)
  · skip
    refine lx_binB false rfl rfl (fun _ => rfl) (fun _ => bin_gtr_i _ _ _) (by rw [decide_eq_false_iff_not]; omega) rfl rfl ?_
    refine lx_nil ?_
    refine x_false rfl ?_
    refine x_skip ?_
    refine xs_plain (E := EE [9]) ?_
    refine lx_callE rfl rfl ent9 rfl rfl (fun w1 hC => (hnew_calls w1 (hGF.g _ _ _ hC)).mono fun e1 w2 h => ?_)
    obtain ⟨bm, rfl, hg, hbm, hob⟩ := h
    refine ⟨_, _, rfl, good_hp hGF, hC.news rides_true hg [(12, bm, MK.map U32, 83)] (rowN hbm hob) inj_one, ?_⟩
    clear hC hg hbm hob
    refine lx_allocr 5 hGF zvH rfl rfl ?_
    intro b5
    refine lx_storea 5 hGF rfl rfl rfl Tryd.sizeOf47 rfl rfl (by rfl) rfl ?_
    refine lx_nil ?_
    refine xs_drawn (E := EE [9]) mixed (by kernel_rfl) (by kernel_rfl) (by kernel_rfl) ?_
    refine lx_loadr (cs := k.map U8) rfl Tryd.isAgg29 Tryd.sizeOf29 (by rw [List.length_map]; exact hk) (fun w' hw' j v hv => by have := (hp_row (n := 2) rfl w' hw') _ v (by8_all j v hv); rwa [Nat.zero_add] at this) rfl rfl ?_
    refine lx_callC rfl rfl ent22 (fun w' hw' hG => hR.ky k hk w' hG) rfl rfl ?_
    refine lx_loada 5 rfl rfl Tryd.isAgg47 Tryd.sizeOf47 rfl rfl rfl ?_
    refine lx_loadr (cs := k.map U8) rfl Tryd.isAgg29 Tryd.sizeOf29 (by rw [List.length_map]; exact hk) (fun w' hw' j v hv => by have := (hp_row (n := 2) rfl w' hw') _ v (by8_all j v hv); rwa [Nat.zero_add] at this) rfl rfl ?_
    refine lx_callC rfl rfl ent23 (fun w' hw' hG => hky_calls bm k hk w' hG (hw'.own 12 _ _ _ rfl).1) rfl rfl ?_
    refine lx_binB true rfl rfl (fun w' => eqg24 _ _ _ _ _ w') (fun w' => eqv24 _ _ (BR8_len k) (BR8_len k) w') (decide_eq_true rfl) rfl rfl ?_
    refine lx_move rfl rfl rfl ?_
    refine lx_loadr (cs := s.cs) rfl Tryd.isAgg38 Tryd.sizeOf38 (Ag.len hs) (fun w' hw' j v hv => by have := (hp_row (n := 3) rfl w' hw') _ v (Ag.all j v hv); rwa [Nat.zero_add] at this) rfl rfl ?_
    refine lx_callC rfl rfl ent24 (fun w' hw' hG => hR.ag s hs (by omega) w' hG (cells_grow hbs (hp_below hw'))) rfl rfl ?_
    refine lx_loada 5 rfl rfl Tryd.isAgg47 Tryd.sizeOf47 rfl rfl rfl ?_
    refine lx_loadr (cs := s.cs) rfl Tryd.isAgg38 Tryd.sizeOf38 (Ag.len hs) (fun w' hw' j v hv => by have := (hp_row (n := 3) rfl w' hw') _ v (Ag.all j v hv); rwa [Nat.zero_add] at this) rfl rfl ?_
    refine lx_callC rfl rfl ent25 (fun w' hw' hG => hag_calls bm s hs (by omega) w' hG (hw'.own 12 _ _ _ rfl).1 (cells_grow hbs (hp_below hw'))) rfl rfl ?_
    refine lx_binB true rfl rfl (fun w' => eqg24 _ _ _ _ _ w') (fun w' => eqv24 _ _ (Ag.rt_len s) (Ag.rt_len s) w') (decide_eq_true rfl) rfl rfl ?_
    refine lx_pick rfl rfl rfl rfl rfl ?_
    refine lx_assign rfl rfl rfl ?_
    refine lx_nil ?_
    refine x_ret ?_
    repeat (first | refine kseq_ret ?_ | refine kblk_ret ?_)
    exact kret_tmp rfl rfl (fun w' hw' => ⟨rfl, hp_below hw'⟩)
end Go.Proofs.YtldnceanfncdfaaDoor
