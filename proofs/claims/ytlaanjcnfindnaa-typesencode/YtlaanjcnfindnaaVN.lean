/-
  What is asked of the program's things; light ones.
-/
import Derived.Test.YtlaanjcnfindnaaVM
import Derived.Test.YtlaanjcnfindnaaVK
namespace Go.Proofs.Ytlaanjcnfindnaa
open Go.RowKit
set_option maxRecDepth 100000
set_option maxHeartbeats 1000000

theorem ent30 : Enters Try.prog 30 := fun _ _ => by kernel_rfl
theorem ent18 : Enters Try.prog 18 := fun _ _ => by kernel_rfl
theorem ent12 : Enters Try.prog 12 := fun _ _ => by kernel_rfl
theorem ent14 : Enters Try.prog 14 := fun _ _ => by kernel_rfl
theorem ent16 : Enters Try.prog 16 := fun _ _ => by kernel_rfl
theorem ent25 : Enters Try.prog 25 := fun _ _ => by kernel_rfl
theorem ent9 : Enters Try.prog 9 := fun _ _ => by kernel_rfl
theorem ent10 : Enters Try.prog 10 := fun _ _ => by kernel_rfl
/-- What is asked of package types. -/
structure TypesP : Prop where
  sizes : ∀ (n : Int) (w : World), Gt w → Calls Try.prog 30 [I n].toArray w (fun e w' => e = .returned (.tuple #[I (sz1 (szN n) : Nat), I (sz2 (szN n) : Nat), I (sz3 (szN n) : Nat), I (sz4 (szN n) : Nat)]) ∧ Grow w w')
  encU : ∀ (u : Up), u.Ok → u.nx.ks.length ≤ 1000 → u.sy.bs.length ≤ 1000 → ∀ (w : World), Gt w → RwsAt 48 w u.nx.ka u.nx.ks → CellsAt w u.sy.ba (u.sy.bs.map .bool) → Calls Try.prog 12 [.agg u.cs.toArray].toArray w (fun e w' => ∃ v, e = .returned v ∧ Grow w w' ∧ Fr8 w w' v u.by)
  encF : ∀ (u : Up), u.Ok → u.nx.ks.length ≤ 1000 → u.sy.bs.length ≤ 1000 → ∀ (w : World), Gt w → RwsAt 48 w u.nx.ka u.nx.ks → CellsAt w u.sy.ba (u.sy.bs.map .bool) → Calls Try.prog 14 [.agg u.cs.toArray].toArray w (fun e w' => ∃ v, e = .returned v ∧ Grow w w' ∧ Fr8 w w' v u.fin)
  encO : ∀ (u : Up), u.Ok → u.nx.ks.length ≤ 1000 → u.sy.bs.length ≤ 1000 → ∀ (w : World), Gt w → RwsAt 48 w u.nx.ka u.nx.ks → CellsAt w u.sy.ba (u.sy.bs.map .bool) → Calls Try.prog 16 [.agg u.cs.toArray].toArray w (fun e w' => ∃ v, e = .returned v ∧ Grow w w' ∧ Fr8 w w' v u.opt)
  encB : ∀ (b : Bo), b.Ok → b.nw.ks.length ≤ 1000 → ∀ (w : World), Gt w → RwsAt 48 w b.nw.ka b.nw.ks → Calls Try.prog 18 [.agg b.cs.toArray].toArray w (fun e w' => ∃ v, e = .returned v ∧ Grow w w' ∧ Fr8 w w' v b.by)
  decB : ∀ (n : Int) (m : Nat), szN n = m → ∀ (bs : By) (a : Option Addr) (cap : Nat), bs.length ≤ cap → bs.length ≤ 100000 → ∀ (w : World), Gt w → BytesAt w a bs → (∀ ad, a = some ad → ad.block < w.heap.size) → Calls Try.prog 21 [.slice a bs.length cap, I n].toArray w (fun e w' => Grow w w' ∧ (bs.length = sz1 m → ∃ ka kc, e = .returned (.tuple #[.agg (boOf bs m ka kc).cs.toArray, I 0]) ∧ SlW 29 48 w' ka kc m ((keysOf (bs.drop 112) m).flatten.map U8) ∧ ∀ k, Of ka k → w.heap.size ≤ k) ∧ (¬ bs.length = sz1 m → e = .returned (.tuple #[.agg Bo0.cs.toArray, I 170])))
  decU : ∀ (n : Int) (m : Nat), szN n = m → ∀ (bs : By) (a : Option Addr) (cap : Nat), bs.length ≤ cap → bs.length ≤ 100000 → ∀ (w : World), Gt w → BytesAt w a bs → (∀ ad, a = some ad → ad.block < w.heap.size) → Calls Try.prog 23 [.slice a bs.length cap, I n].toArray w (fun e w' => Grow w w' ∧ (bs.length = sz2 m → cleanB (sub bs (624 + 48 * m) (szB m)) m = true → ∃ ka kc, SlW 29 48 w' ka kc m ((keysOf (bs.drop 112) m).flatten.map U8) ∧ (∀ k, Of ka k → w.heap.size ≤ k) ∧ ∃ ba bc, e = .returned (.tuple #[.agg (UC (hdOf bs).cs (Value.slice ka m kc :: (sub (bs.drop 112) (48 * m) 48).map U8) ((sub bs (160 + 48 * m) (32 * 5)).map U8) (hdOf (bs.drop (320 + 48 * m))).cs ((sub bs (432 + 48 * m) (32 * 6)).map U8) (Value.slice ba (bt (sub bs (624 + 48 * m) (szB m)) m).length bc :: (sub bs (624 + 48 * m + szB m) 96).map U8) [U64 (pn (sub bs (624 + 48 * m + szB m + 96) 8) 8)]).toArray, I 0]) ∧ SlV 4 w' ba bc ((bt (sub bs (624 + 48 * m) (szB m)) m).map .bool) ∧ ∀ ad, ba = some ad → w.heap.size ≤ ad.block) ∧ (bs.length = sz2 m → cleanB (sub bs (624 + 48 * m) (szB m)) m = false → e = .returned (.tuple #[.agg U0.toArray, I 171])) ∧ (¬ bs.length = sz2 m → e = .returned (.tuple #[.agg U0.toArray, I 170])))
  decF : ∀ (n : Int) (m : Nat), szN n = m → ∀ (bs : By) (a : Option Addr) (cap : Nat), bs.length ≤ cap → bs.length ≤ 100000 → ∀ (w : World), Gt w → BytesAt w a bs → (∀ ad, a = some ad → ad.block < w.heap.size) → Calls Try.prog 24 [.slice a bs.length cap, I n].toArray w (fun e w' => Grow w w' ∧ (bs.length = sz3 m → cleanB (sub bs (416) (szB m)) m = true → ∃ ba bc, e = .returned (.tuple #[.agg (UC (hdOf bs).cs Co0 ((Zs 160).map U8) (hdOf (bs.drop (112))).cs ((sub bs (224) (32 * 6)).map U8) (Value.slice ba (bt (sub bs (416) (szB m)) m).length bc :: (sub bs (416 + szB m) 96).map U8) [U64 (pn (sub bs (416 + szB m + 96) 8) 8)]).toArray, I 0]) ∧ SlV 4 w' ba bc ((bt (sub bs (416) (szB m)) m).map .bool) ∧ ∀ ad, ba = some ad → w.heap.size ≤ ad.block) ∧ (bs.length = sz3 m → cleanB (sub bs (416) (szB m)) m = false → e = .returned (.tuple #[.agg U0.toArray, I 171])) ∧ (¬ bs.length = sz3 m → e = .returned (.tuple #[.agg U0.toArray, I 170])))
  decO : ∀ (n : Int) (m : Nat), szN n = m → ∀ (bs : By) (a : Option Addr) (cap : Nat), bs.length ≤ cap → bs.length ≤ 100000 → ∀ (w : World), Gt w → BytesAt w a bs → (∀ ad, a = some ad → ad.block < w.heap.size) → Calls Try.prog 25 [.slice a bs.length cap, I n].toArray w (fun e w' => Grow w w' ∧ (bs.length = sz4 m → cleanB (sub bs (112) (szB m)) m = true → ∃ ba bc, e = .returned (.tuple #[.agg (UC (hdOf bs).cs Co0 ((Zs 160).map U8) Hd0.cs ((Zs 192).map U8) (Value.slice ba (bt (sub bs (112) (szB m)) m).length bc :: (sub bs (112 + szB m) 96).map U8) [U64 (pn (sub bs (112 + szB m + 96) 8) 8)]).toArray, I 0]) ∧ SlV 4 w' ba bc ((bt (sub bs (112) (szB m)) m).map .bool) ∧ ∀ ad, ba = some ad → w.heap.size ≤ ad.block) ∧ (bs.length = sz4 m → cleanB (sub bs (112) (szB m)) m = false → e = .returned (.tuple #[.agg U0.toArray, I 171])) ∧ (¬ bs.length = sz4 m → e = .returned (.tuple #[.agg U0.toArray, I 170])))
theorem ap8_fr {w w' : World} {a1 : Option Addr} {cap1 : Nat} {xs : By} (h : Ap8 w none w' a1 cap1 xs) : Grow w w' ∧ Fr8 w w' (.slice a1 xs.length cap1) xs :=
  ⟨h.m.grow (fun k _ hk => by obtain ⟨_, e, _⟩ := hk; cases e), a1, cap1, rfl, h.s, fun ad e => (h.o ad.block ⟨ad, e, rfl⟩).elim (fun h => by obtain ⟨_, e, _⟩ := h; cases e) id⟩
theorem light_calls (u : Up) (hk : u.Ok) (w : World) (hw : Gt w) : Calls Try.prog 10 [.agg u.cs.toArray].toArray w (fun e w' => e = .returned (.bool (decide (u.nx.ks.length ≤ 40 ∧ u.sy.bs.length ≤ 40))) ∧ Grow w w') := by
  have hGF : BOk Gt (pl w) := gt_low.plain hw
  refine calls_of_X (G := Gt) Try.func10 rfl rfl (Hp (pl w) []) (hp_refl (pl w) trivial rides_true) (good_hp hGF) ?_
  refine xs_plain (E := EE []) ?_
  refine lx_boxr 1 hGF rfl rfl rfl ?_
  intro b1
  refine lx_assign rfl rfl rfl ?_
  refine lx_nil ?_
  refine xs_plain (E := EE []) ?_
  refine lx_fak 98 rfl Try.underlying40 rfl Try.sizeOf31 (by decide) rfl rfl rfl ?_
  refine lx_fak 98 rfl Try.underlying31 rfl Try.sizeOf27 (by decide) rfl rfl rfl ?_
  refine lx_load rfl Try.isAgg27 (fun w' h => (rg_at (ds := [_]) (hp_row (n := 1) rfl w' h) (one_at (Up.at_nx hk 0 _ rfl))) 0 _ rfl) rfl rfl ?_
  refine lx_len rfl (fun _ => len_slice Try.underlying27 _ _ _ _) rfl rfl ?_
  by_cases h1 : u.nx.ks.length ≤ 40
  · skip
    refine lx_binB true rfl rfl (fun _ => rfl) (fun _ => bin_leq_i _ _ _) (by simp; omega) rfl rfl ?_
    refine lx_move rfl rfl rfl ?_
    refine lx_fak 597 rfl Try.underlying40 rfl Try.sizeOf38 (by decide) rfl rfl rfl ?_
    refine lx_fak 597 rfl Try.underlying38 rfl Try.sizeOf34 (by decide) rfl rfl rfl ?_
    refine lx_load rfl Try.isAgg34 (fun w' h => (rg_at (ds := [_]) (hp_row (n := 1) rfl w' h) (one_at (Up.at_bits hk))) 0 _ rfl) rfl rfl ?_
    refine lx_len rfl (fun _ => len_slice Try.underlying34 _ _ _ _) rfl rfl ?_
    by_cases h2 : u.sy.bs.length ≤ 40
    · skip
      have hR : decide (u.nx.ks.length ≤ 40 ∧ u.sy.bs.length ≤ 40) = true := by simp [h1, h2]
      refine lx_binB true rfl rfl (fun _ => rfl) (fun _ => bin_leq_i _ _ _) (by simp; omega) rfl rfl ?_
      refine lx_pick rfl rfl rfl rfl rfl ?_
      refine lx_assign rfl rfl rfl ?_
      refine lx_nil ?_
      refine x_ret ?_
      repeat (first | refine kseq_ret ?_ | refine kblk_ret ?_)
      exact kret_tmp rfl rfl (fun w' hw' => ⟨by rw [hR] <;> rfl, hp_below hw'⟩)
    · skip
      have hR : decide (u.nx.ks.length ≤ 40 ∧ u.sy.bs.length ≤ 40) = false := by simp [h2]
      refine lx_binB false rfl rfl (fun _ => rfl) (fun _ => bin_leq_i _ _ _) (by simp; omega) rfl rfl ?_
      refine lx_pick rfl rfl rfl rfl rfl ?_
      refine lx_assign rfl rfl rfl ?_
      refine lx_nil ?_
      refine x_ret ?_
      repeat (first | refine kseq_ret ?_ | refine kblk_ret ?_)
      exact kret_tmp rfl rfl (fun w' hw' => ⟨by rw [hR] <;> rfl, hp_below hw'⟩)
  · skip
    have hR : decide (u.nx.ks.length ≤ 40 ∧ u.sy.bs.length ≤ 40) = false := by simp [h1]
    refine lx_binB false rfl rfl (fun _ => rfl) (fun _ => bin_leq_i _ _ _) (by simp; omega) rfl rfl ?_
    refine lx_move rfl rfl rfl ?_
    refine lx_skip rfl rfl rfl ?_
    refine lx_skip rfl rfl rfl ?_
    refine lx_skip rfl rfl rfl ?_
    refine lx_skip rfl rfl rfl ?_
    refine lx_skip rfl rfl rfl ?_
    refine lx_pick rfl rfl rfl rfl rfl ?_
    refine lx_assign rfl rfl rfl ?_
    refine lx_nil ?_
    refine x_ret ?_
    repeat (first | refine kseq_ret ?_ | refine kblk_ret ?_)
    exact kret_tmp rfl rfl (fun w' hw' => ⟨by rw [hR] <;> rfl, hp_below hw'⟩)
end Go.Proofs.Ytlaanjcnfindnaa
