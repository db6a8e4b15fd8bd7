/-
  The document's reader: aggregates, the end; sizes.
-/
import Derived.Test.YtlaanjcnfindnaaVF
namespace Go.Proofs.Ytlaanjcnfindnaa
open Go.RowKit
set_option maxRecDepth 100000
set_option maxHeartbeats 1000000

theorem ent44 : Enters Try.prog 44 := fun _ _ => by kernel_rfl
theorem ent31 : Enters Try.prog 31 := fun _ _ => by kernel_rfl
def Z96 : By := List.replicate 96 0#8
def Ag0 : List Value := .slice none 0 0 :: Z96.map U8
theorem zvAg (w : World) : (zeroValue 38).run Try.prog w = .ok (.agg Ag0.toArray) w := (Try.zeroValue38 w).trans (by rfl)
theorem bldAg (a : Option Addr) (n c : Nat) (w : World) : (Instr.build 38 #[(0, .slice a n c)]).run Try.prog w = .ok (.agg (.slice a n c :: Z96.map U8).toArray) w :=
  run_buildP (c := [] ++ ([.slice none 0 0] ++ Z96.map U8)) zvAg Try.underlying38 (mapM_two rfl rfl Try.sizeOf34 Try.sizeOf36) [(0, .slice a n c)] (by
    rw [fill_app (pre := []) (old := [.slice none 0 0]) (vs := [.slice a n c]) rfl rfl rfl]
    rfl) w
theorem lay_tailp {x : Value} {l : By} {s : Nat} (h : l.length ≤ s) : lay 1 (l.map U8) (x :: (List.replicate s 0#8).map U8) = x :: (pad0 s l).map U8 := by
  rw [lay_eq _ _ _ (by simp; omega)]
  simp [pad0, Nat.add_comm 1]
theorem rag_calls (S : Nat → Prop) (b : Nat) (bs : By) (n : Nat) (hn : n ≤ 1000) (hl : bs.length ≤ 100000) (w : World) (hw : Gt w) (hb : b < w.heap.size) (hrd : RdAt 84 S w b bs 0) (hSz : ∀ k, S k → k < w.heap.size) : Calls Try.prog 50 [.pointer (some ⟨b, 0, none⟩), I (n : Int)].toArray w (fun r w' => ∃ v, r = .returned v ∧ MM (fun k => k = b) w w' ∧ (∃ ba bc, v = .agg (.slice ba (gotB bs 0 n).length bc :: (pad0 96 (got (lftB bs 0 n) (errB bs 0 n) 96)).map U8).toArray ∧ SlV 4 w' ba bc ((gotB bs 0 n).map .bool) ∧ ∀ ad, ba = some ad → w.heap.size ≤ ad.block) ∧ RdAt 84 S w' b (lft (lftB bs 0 n) (errB bs 0 n) 96) (err (lftB bs 0 n) (errB bs 0 n) 96)) := by
  have hGF : BOk Gt (pl w) := gt_low.plain hw
  refine calls_of_X (G := Gt) Try.func50 rfl rfl (Hp (pl w) []) (hp_refl (pl w) trivial rides_true) (good_hp hGF) ?_
  refine xs_plain (E := EE []) ?_
  refine lx_allocr 4 hGF zvAg rfl rfl ?_
  intro b4
  refine lx_nil ?_
  refine x_now0 gt_low (fun w3 hC g3 => ?_)
  have hM : MM (fun k => k = b) w w3 := grow_mm (hp_below hC)
  have hrd := hrd.grow (hp_below hC)
  have ho4 := (hC.own 4 _ _ _ rfl).1
  have hz4 : w.heap.size ≤ b4 := (hC.own 4 _ _ _ rfl).2.elim id False.elim
  have hn4 : b4 ≠ b := fun e => by omega
  clear hC
  have hGF := gt_low.plain g3
  refine xs_plain (E := EE [66]) ?_
  refine lx_move rfl rfl rfl ?_
  refine lx_move rfl rfl rfl ?_
  have hoX := ho4
  have hMX := hM
  refine lx_callW gt_low (M := fun k => k = b) (fun k _ => Nat.zero_le k) rfl rfl ent66 rfl rfl hGF (Q := fun w1 w2 v => FrB w1 w2 v (gotB bs 0 n) ∧ RdAt 84 S w2 b (lftB bs 0 n) (errB bs 0 n)) (fun w1 h1 g1 => (by have := st_calls S b bs 0 (n : Int) (by omega) (by omega) w1 g1 (Nat.zero_le _) (hrd.grow h1); rw [Int.toNat_natCast] at this; exact this)) (fun w8a w8 v hg8 hm8 gg8 hq => ?_)
  have hGF := gt_low.plain gg8
  have hM := (hM.trans (grow_mm hg8)).trans hm8
  have ho4 := hm8.own (ho4.grow hg8) hn4
  obtain ⟨⟨ba, bc, rfl, hbt, hbn⟩, hrd⟩ := hq
  have hbz : ∀ ad, ba = some ad → w.heap.size ≤ ad.block ∧ ad.block ≠ b4 := fun ad e => by have h1 := hbn ad e; have h2 := hg8.size; have h3 := hMX.size; have h4 := (hoX.grow hg8).lt; exact ⟨by omega, by omega⟩
  clear hoX hMX hbn
  clear hg8 hm8
  refine lx_build (ps := [(0, .tmp 8)]) (vs := [.slice ba (gotB bs 0 n).length bc]) rfl (fun w => bldAg _ _ _ w) rfl rfl ?_
  refine lx_allocr 5 hGF zvAg rfl rfl ?_
  intro b5
  have hMs := hM.size
  refine lx_storea 5 hGF rfl rfl rfl Try.sizeOf38 (by simp [Z96]) (by simp [Ag0, Z96]) (CoC_one _ _ _ _) rfl ?_
  refine lx_nil ?_
  refine x_now0 gt_low (fun w4 hC g4 => ?_)
  have hM := hM.trans (grow_mm (hp_below hC))
  have hrd := hrd.grow (hp_below hC)
  have hl4 := ho4.lt
  have ho4 := ho4.grow (hp_below hC)
  have ho5 := (hC.own 5 _ _ _ rfl).1
  have hq5 := (hC.own 5 _ _ _ rfl).2.elim id False.elim
  simp only [pl] at hq5
  have hzM := hMs
  have hz5 : w.heap.size ≤ b5 := by omega
  have hn5 : b5 ≠ b := fun e => by omega
  have hx5_4 : b5 ≠ b4 := fun e => by omega
  have hbz : ∀ ad, ba = some ad → w.heap.size ≤ ad.block ∧ ad.block ≠ b4 ∧ ad.block ≠ b5 := fun ad e => ⟨(hbz ad e).1, (hbz ad e).2, by have := hbt.lt ad e; omega⟩
  have hbt := hbt.grow (hp_below hC)
  have hGF := gt_low.plain g4
  clear hC hq5
  refine xs_drawn (E := EE [65]) mixed (by kernel_rfl) (by kernel_rfl) (by kernel_rfl) ?_
  refine lx_fak 1 rfl Try.underlying38 rfl Try.sizeOf36 (by decide) rfl rfl rfl ?_
  refine lx_slarr0 rfl Try.underlying36 Try.sizeOf5 (by decide) rfl rfl ?_
  refine lx_move rfl rfl rfl ?_
  refine lx_callW gt_low (M := fun k => k = b) (fun k _ => Nat.zero_le k) rfl rfl ent65 rfl rfl hGF (Q := fun w1 w2 v => (∃ a1 c1, v = .slice a1 (got (lftB bs 0 n) (errB bs 0 n) 96).length c1 ∧ BytesAt w2 a1 (got (lftB bs 0 n) (errB bs 0 n) 96) ∧ ∀ ad, a1 = some ad → S ad.block) ∧ RdAt 84 S w2 b (lft (lftB bs 0 n) (errB bs 0 n) 96) (err (lftB bs 0 n) (errB bs 0 n) 96)) (fun w1 h1 g1 => sb2_calls S b (lftB bs 0 n) (errB bs 0 n) 96 w1 g1 (Nat.zero_le _) (hrd.grow h1)) (fun w13a w13 v hg13 hm13 gg13 hq => ?_)
  have hGF := gt_low.plain gg13
  have hM := (hM.trans (grow_mm hg13)).trans hm13
  have ho4 := hm13.own (ho4.grow hg13) hn4
  have ho5 := hm13.own (ho5.grow hg13) hn5
  obtain ⟨⟨a1, c1, rfl, hby, hab⟩, hrd⟩ := hq
  have hbt := (hbt.grow hg13).mm hm13 (fun ad e h => by have := (hbz ad e).1; omega)
  clear hg13 hm13
  refine lx_cpW (cs := (got (lftB bs 0 n) (errB bs 0 n) 96)) gt_low (fun w' h => hGF.g _ _ _ h) (fun w' h => ho5.grow (hp_below h)) (Nat.zero_le _) rfl rfl Try.underlying46 info5 (Nat.min_eq_left (got_lm _ _ _)).symm (fun w' h => hby.grow (hp_below h)) (fun w' h _ ad e1 e2 => by have := hSz _ (hab ad e1); omega) (by have := got_lm (lftB bs 0 n) (errB bs 0 n) 96; simp [Z96]; omega) rfl rfl (fun w14a w14 hC g2 hm h2 => ?_)
  rw [show lay 1 ((got (lftB bs 0 n) (errB bs 0 n) 96).map U8) (.slice ba (gotB bs 0 n).length bc :: Z96.map U8) = .slice ba (gotB bs 0 n).length bc :: (pad0 96 (got (lftB bs 0 n) (errB bs 0 n) 96)).map U8 from lay_tailp (got_lm _ _ _)] at h2
  have hbt := (hbt.grow (hp_below hC)).mm hm (fun ad e h => (hbz ad e).2.2 h)
  have hM := (hM.trans (grow_mm (hp_below hC))).trans' hm (fun i e hi => by subst e; omega)
  have hrd := (hrd.grow (hp_below hC)).mm hm (fun e => hn5 e.symm) (fun i hi hl e => by have := hSz i hi; subst e; omega)
  have ho4 := hm.own (ho4.grow (hp_below hC)) (fun e => hx5_4 e.symm)
  have ho5 := h2
  have hGF := gt_low.plain g2
  clear hC hm h2
  refine lx_nil ?_
  refine xs_plain (E := EE []) ?_
  have hcl : (.slice ba (gotB bs 0 n).length bc :: (pad0 96 (got (lftB bs 0 n) (errB bs 0 n) 96)).map U8).length = 97 := by rw [List.length_cons, List.length_map, pad_len (got_lm _ _ _)]
  refine lx_loadr (cs := .slice ba (gotB bs 0 n).length bc :: (pad0 96 (got (lftB bs 0 n) (errB bs 0 n) 96)).map U8) rfl Try.isAgg38 Try.sizeOf38 hcl (fun w' h => (ho5.grow (hp_below h)).range) rfl rfl ?_
  refine lx_stW gt_low (fun w' h => hGF.g _ _ _ h) (fun w' h => ho4.grow (hp_below h)) (Nat.zero_le _) rfl rfl Try.sizeOf38 hcl (CoC_one _ _ _ _) (by rw [hcl]; decide) rfl (fun wFa wF hC g2 hm h2 => ?_)
  rw [lay_all _ _ (by rw [hcl]; rfl)] at h2
  have hbt := (hbt.grow (hp_below hC)).mm hm (fun ad e h => (hbz ad e).2.1 h)
  have hM := (hM.trans (grow_mm (hp_below hC))).trans' hm (fun i e hi => by subst e; omega)
  have hrd := (hrd.grow (hp_below hC)).mm hm (fun e => hn4 e.symm) (fun i hi hl e => by have := hSz i hi; subst e; omega)
  have ho5 := hm.own (ho5.grow (hp_below hC)) hx5_4
  have ho4 := h2
  have hGF := gt_low.plain g2
  clear hC hm h2
  refine lx_nil ?_
  refine x_ret ?_
  repeat (first | refine kseq_ret ?_ | refine kblk_ret ?_)
  exact kret_cell rfl rfl Try.isAgg38 Try.sizeOf38 hcl (fun w' h => (ho4.grow (hp_below h)).range) (fun w' hw' => ⟨_, rfl, hM.trans (grow_mm (hp_below hw')), ⟨ba, bc, rfl, hbt.grow (hp_below hw'), fun ad e => (hbz ad e).1⟩, hrd.grow (hp_below hw')⟩)
end Go.Proofs.Ytlaanjcnfindnaa
