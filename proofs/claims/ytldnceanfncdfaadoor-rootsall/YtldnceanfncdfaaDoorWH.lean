/-
  The laws of all containers' roots, and of their parts.
-/
import Derived.Test.YtldnceanfncdfaaDoorWG
namespace Go.Proofs.YtldnceanfncdfaaDoor
open Go.RowKit
set_option maxRecDepth 100000
set_option maxHeartbeats 1000000
open Sh
theorem ent8 : Enters Tryd.prog 8 := fun _ _ => by kernel_rfl
theorem rowN {w : World} {n b lo : Nat} {c : List Value} {t : TypeId} (h1 : lo ≤ b) (h2 : OwnB w b c t) : ∀ n' b' c' t', lkB [(n, b, c, t)] n' = some (b', c', t') → lo ≤ b' ∧ OwnB w b' c' t' := fun n' b' c' t' hl => by
  rcases lkB_cons hl with ⟨_, e⟩ | ⟨_, hl⟩
  · cases e; exact ⟨h1, h2⟩
  · cases hl
theorem Up.all {u : Up} : ∀ j v, u.cs[j]? = some v → u.cs[0 + j]? = some v := fun j v hv => by rw [Nat.zero_add]; exact hv
theorem Bo.all {b : Bo} : ∀ j v, b.cs[j]? = some v → b.cs[0 + j]? = some v := fun j v hv => by rw [Nat.zero_add]; exact hv
theorem Ag.all {a : Ag} : ∀ j v, a.cs[j]? = some v → a.cs[0 + j]? = some v := fun j v hv => by rw [Nat.zero_add]; exact hv
def Up.bits (u : Up) (L : List Bool) (a : Option Addr) (c : Nat) : Up := ⟨u.at_, u.nx, u.br, u.fi, u.fy, ⟨L, a, c, u.sy.sig⟩, u.sl⟩
theorem Up.bits_ok {u : Up} (k : u.Ok) (L : List Bool) (a : Option Addr) (c : Nat) : (u.bits L a c).Ok := ⟨k.at_, k.nx, k.br, k.fi, k.fy, ⟨k.sy.sig⟩⟩
theorem Up.bits_cs {u : Up} (k : u.Ok) (L : List Bool) (a : Option Addr) (c : Nat) : u.cs.set 597 (.slice a L.length c) = (u.bits L a c).cs := by
  have h : ∀ (p q : List Value) (x y : Value), p.length = 597 → (p ++ (x :: q)).set 597 y = p ++ (y :: q) := fun p q x y hp => by
    rw [List.set_append_right _ _ (by omega), hp]
    rfl
  have e : ∀ (v : Up), v.cs = (v.at_.cs ++ (v.nx.cs ++ (v.br.map U8 ++ (v.fi.cs ++ v.fy.map U8)))) ++ (.slice v.sy.ba v.sy.bs.length v.sy.bc :: (v.sy.sig.map U8 ++ [U64 v.sl])) := fun v => by
    simp [Up.cs, Ag.cs, List.append_assoc]
  rw [e u, e (u.bits L a c), h _ _ _ _ (by simp [Hd.len k.at_, Co.len k.nx, k.br, Hd.len k.fi, k.fy])]
  rfl
/-- Whether an update is small. -/
def lig (u : Up) : Bool := decide (u.nx.ks.length ≤ 40) && decide (u.sy.bs.length ≤ 600)
theorem le_iN (len m : Nat) (t : TypeId) (w : World) : (binOp .leq t (I (len : Int)) (I (m : Int))).run Tryd.prog w = .ok (.bool (decide (len ≤ m))) w := by
  rw [bin_leq_i]
  congr 2
  exact decide_eq_decide.2 (by omega)
theorem light_calls (u : Up) (hk : u.Ok) (w : World) (hw : Gt w) : Calls Tryd.prog 8 [.agg u.cs.toArray].toArray w (fun e w' => e = .returned (.bool (lig u)) ∧ Grow w w') := by
  have hGF : BOk Gt (pl w) := gt_low.plain hw
  refine calls_of_X (G := Gt) Tryd.func8 rfl rfl (Hp (pl w) []) (hp_refl (pl w) trivial rides_true) (good_hp hGF) ?_
  refine xs_plain (E := EE []) ?_
  refine lx_boxr 1 hGF rfl rfl rfl ?_
  intro b1
  refine lx_assign rfl rfl rfl ?_
  refine lx_nil ?_
  refine xs_plain (E := EE []) ?_
  refine lx_fak 98 rfl Tryd.underlying40 rfl Tryd.sizeOf31 (by decide) rfl rfl rfl ?_
  refine lx_fak 98 rfl Tryd.underlying31 rfl Tryd.sizeOf27 (by decide) rfl rfl rfl ?_
  refine lx_load (v := .slice u.nx.ka u.nx.ks.length u.nx.kc) rfl Tryd.isAgg27 (fun w' hw' => by have := (hp_row (n := 1) rfl w' hw') _ _ ((at_trans (o := 98) (p := 0) (Up.l2 hk) Co.a0) 0 _ rfl); exact this) rfl rfl ?_
  refine lx_len rfl (fun _ => len_slice Tryd.underlying27 _ _ _ _) rfl rfl ?_
  rcases Nat.lt_or_ge 40 u.nx.ks.length with hgt | hle
  · skip
    have hlg : lig u = false := by rw [lig, decide_eq_false (by omega)]; rfl
    refine lx_binB false rfl rfl (fun _ => rfl) (fun _ => bin_leq_i _ _ _) (by rw [decide_eq_false_iff_not]; omega) rfl rfl ?_
    refine lx_move rfl rfl rfl ?_
    refine lx_skip rfl rfl rfl ?_
    refine lx_skip rfl rfl rfl ?_
    refine lx_skip rfl rfl rfl ?_
    refine lx_skip rfl rfl rfl ?_
    refine lx_skip rfl rfl rfl ?_
    refine lx_pick rfl rfl rfl rfl rfl ?_
    refine lx_assign rfl rfl rfl ?_
    refine lx_nil ?_
    refine x_ret ?_
    repeat (first | refine kseq_ret ?_ | refine kblk_ret ?_)
    exact kret_tmp rfl rfl (fun w' hw' => ⟨by rw [hlg]; rfl, hp_below hw'⟩)
  · skip
    have hlg : lig u = decide (u.sy.bs.length ≤ 600) := by rw [lig, decide_eq_true hle]; rfl
    refine lx_binB true rfl rfl (fun _ => rfl) (fun _ => bin_leq_i _ _ _) (by rw [decide_eq_true_eq]; omega) rfl rfl ?_
    refine lx_move rfl rfl rfl ?_
    refine lx_fak 597 rfl Tryd.underlying40 rfl Tryd.sizeOf38 (by decide) rfl rfl rfl ?_
    refine lx_fak 597 rfl Tryd.underlying38 rfl Tryd.sizeOf34 (by decide) rfl rfl rfl ?_
    refine lx_load (v := .slice u.sy.ba u.sy.bs.length u.sy.bc) rfl Tryd.isAgg34 (fun w' hw' => by have := (hp_row (n := 1) rfl w' hw') _ _ (Up.ab hk 0 _ rfl); exact this) rfl rfl ?_
    refine lx_len rfl (fun _ => len_slice Tryd.underlying34 _ _ _ _) rfl rfl ?_
    refine lx_bin (v := .bool (decide (u.sy.bs.length ≤ 600))) rfl rfl (fun _ => rfl) (fun w => le_iN u.sy.bs.length 600 _ w) rfl rfl ?_
    refine lx_pick rfl rfl rfl rfl rfl ?_
    refine lx_assign rfl rfl rfl ?_
    refine lx_nil ?_
    refine x_ret ?_
    repeat (first | refine kseq_ret ?_ | refine kblk_ret ?_)
    exact kret_tmp rfl rfl (fun w' hw' => ⟨by rw [hlg]; rfl, hp_below hw'⟩)
end Go.Proofs.YtldnceanfncdfaaDoor
