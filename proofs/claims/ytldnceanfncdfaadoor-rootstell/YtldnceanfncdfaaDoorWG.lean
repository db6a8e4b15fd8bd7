/-
  What is asked of the program's roots; the roots that are known.
-/
import Derived.Test.YtldnceanfncdfaaDoorWF
import Derived.Test.YtldnceanfncdfaaDoorXQ
import Derived.Test.YtldnceanfncdfaaDoorX3
namespace Go.Proofs.YtldnceanfncdfaaDoor
open Go.RowKit
set_option maxRecDepth 100000
set_option maxHeartbeats 1000000
open Sh
theorem ent10 : Enters Tryd.prog 10 := fun _ _ => by kernel_rfl
theorem ent22 : Enters Tryd.prog 22 := fun _ _ => by kernel_rfl
theorem ent12 : Enters Tryd.prog 12 := fun _ _ => by kernel_rfl
theorem ent24 : Enters Tryd.prog 24 := fun _ _ => by kernel_rfl
theorem ent7 : Enters Tryd.prog 7 := fun _ _ => by kernel_rfl
/-- What is asked of package roots. -/
structure RootsP : Prop where
  hd : ∀ (h : Hd), h.Ok → ∀ (w : World), Gt w → Calls Tryd.prog 10 [.agg h.cs.toArray].toArray w (fun e w' => e = .returned (.agg ((h.rt).map U8).toArray) ∧ Grow w w')
  ky : ∀ (k : By), k.length = 48 → ∀ (w : World), Gt w → Calls Tryd.prog 22 [.agg (k.map U8).toArray].toArray w (fun e w' => e = .returned (.agg ((BR8 k).map U8).toArray) ∧ Grow w w')
  co : ∀ (c : Co), c.Ok → c.ks.length ≤ 1000 → ∀ (w : World), Gt w → RwsAt 48 w c.ka c.ks → Calls Tryd.prog 12 [.agg c.cs.toArray].toArray w (fun e w' => e = .returned (.agg ((c.rt c.ks.length).map U8).toArray) ∧ Grow w w')
  ag : ∀ (s : Ag), s.Ok → s.bs.length ≤ 1000 → ∀ (w : World), Gt w → CellsAt w s.ba (s.bs.map .bool) → Calls Tryd.prog 24 [.agg s.cs.toArray].toArray w (fun e w' => e = .returned (.agg ((s.rt).map U8).toArray) ∧ Grow w w')
  up : ∀ (u : Up), u.Ok → u.nx.ks.length ≤ 1000 → u.sy.bs.length ≤ 1000 → ∀ (w : World), Gt w → RwsAt 48 w u.nx.ka u.nx.ks → CellsAt w u.sy.ba (u.sy.bs.map .bool) → Calls Tryd.prog 14 [.agg u.cs.toArray].toArray w (fun e w' => e = .returned (.agg ((Tor u.fs).map U8).toArray) ∧ Grow w w')
  fi : ∀ (u : Up), u.Ok → u.sy.bs.length ≤ 1000 → ∀ (w : World), Gt w → CellsAt w u.sy.ba (u.sy.bs.map .bool) → Calls Tryd.prog 16 [.agg u.cs.toArray].toArray w (fun e w' => e = .returned (.agg ((Tor u.ff).map U8).toArray) ∧ Grow w w')
  op : ∀ (u : Up), u.Ok → u.sy.bs.length ≤ 1000 → ∀ (w : World), Gt w → CellsAt w u.sy.ba (u.sy.bs.map .bool) → Calls Tryd.prog 18 [.agg u.cs.toArray].toArray w (fun e w' => e = .returned (.agg ((Tor u.fo).map U8).toArray) ∧ Grow w w')
  bo : ∀ (b : Bo), b.Ok → b.nw.ks.length ≤ 1000 → ∀ (w : World), Gt w → RwsAt 48 w b.nw.ka b.nw.ks → Calls Tryd.prog 20 [.agg b.cs.toArray].toArray w (fun e w' => e = .returned (.agg ((Tor b.fs).map U8).toArray) ∧ Grow w w')
def kH (b : List (BitVec 8)) : List (BitVec 8) := DG ((mixN (KW.map tN) (IV.map tN) ((blks b).map (·.map BitVec.toNat))).map (BitVec.ofNat 32)) 8
theorem kn_e (x y : Rt) : P2 x y = kH (x ++ y) := SHA_e _ _ rfl
theorem k_five {α : Type} (p : α → α → α) (z a b c d e : α) : tre p z 3 [a, b, c, d, e] = p (p (p a b) (p c d)) (p (p e z) (p z z)) := rfl
theorem k_two {α : Type} (p : α → α → α) (z a b : α) : tre p z 1 [a, b] = p a b := rfl
theorem nR_0 : nR 0#64 = Z0 := by decide +kernel
def Hd0 : Hd := ⟨0#64, 0#64, Z0, Z0, Z0⟩
def Hd1 : Hd := ⟨1#64, 0#64, Z0, Z0, Z0⟩
theorem Hd0_ok : Hd0.Ok := ⟨rfl, rfl, rfl⟩
theorem Hd1_ok : Hd1.Ok := ⟨rfl, rfl, rfl⟩
theorem tor5 (a b c d e : Rt) : Tor [a, b, c, d, e] = P2 (P2 (P2 a b) (P2 c d)) (P2 (P2 e Z0) (P2 Z0 Z0)) := by
  rw [Tor, show dep [a, b, c, d, e].length = 3 from (by decide +kernel : dep 5 = 3), k_five]
theorem tor2 (a b : Rt) : Tor [a, b] = P2 a b := by
  rw [Tor, show dep [a, b].length = 1 from (by decide +kernel : dep 2 = 1), k_two]
theorem hd0_rt : Hd0.rt = zrT P2 Z0 3 := by
  show Tor [nR 0#64, nR 0#64, Z0, Z0, Z0] = _
  rw [nR_0, tor5]
  rfl
def nR1 : Rt := 1#8 :: List.replicate 31 0#8
theorem nR_1 : nR 1#64 = nR1 := by decide +kernel
theorem hd1_ne : ¬ Hd1.rt = Hd0.rt := by
  show ¬ Tor [nR 1#64, nR 0#64, Z0, Z0, Z0] = Tor [nR 0#64, nR 0#64, Z0, Z0, Z0]
  rw [nR_0, nR_1, tor5, tor5]
  simp only [kn_e]
  decide +kernel
theorem br_48 : BR8 Z48 = P2 Z0 Z0 := by
  rw [BR8, show chs Z48 = [Z0, Z0] from by decide +kernel, tor2]
theorem co2_ne (a : Option Addr) (c : Nat) : ¬ (⟨[Z48, Z48], a, c, Z48⟩ : Co).rt 2 = Z0 := by
  show ¬ Tor [Tor [BR8 Z48, BR8 Z48], BR8 Z48] = Z0
  rw [br_48, tor2, tor2]
  simp only [kn_e]
  decide +kernel
theorem eqg24 (op : BinOp) (x y : Operand) (xs ys : Array Value) (w : World) : (eqGuard op 24 x y (.agg xs) (.agg ys)).run Tryd.prog w = .ok () w := run_eqGuard_agg w op 24 x y xs ys (by kernel_rfl)
theorem eqv24 (xs ys : List (BitVec 8)) (h : xs.length = 32) (h' : ys.length = 32) (w : World) : (binOp .eql 24 (.agg (xs.map U8).toArray) (.agg (ys.map U8).toArray)).run Tryd.prog w = .ok (.bool (decide (xs = ys))) w := bin_eq8 Tryd.underlying24 Tryd.underlying5 Tryd.sizeOf5 Tryd.isAgg5 xs ys h h' w
theorem nev24 (xs ys : List (BitVec 8)) (h : xs.length = 32) (h' : ys.length = 32) (w : World) : (binOp .neq 24 (.agg (xs.map U8).toArray) (.agg (ys.map U8).toArray)).run Tryd.prog w = .ok (.bool (!decide (xs = ys))) w := bin_ne8 Tryd.underlying24 Tryd.underlying5 Tryd.sizeOf5 Tryd.isAgg5 xs ys h h' w
theorem zvHd (w : World) : (zeroValue 26).run Tryd.prog w = .ok (.agg Hd0.cs.toArray) w := (Tryd.zeroValue26 w).trans (by rfl)
theorem bldHd0 (w : World) : (Instr.build 26 #[]).run Tryd.prog w = .ok (.agg Hd0.cs.toArray) w := run_buildP (c := Hd0.cs) zvHd Tryd.underlying26 (ps := #[(0, 1), (1, 1), (2, 32), (34, 32), (66, 32)]) (fun w => by simp [Tryd.sizeOf22, Tryd.sizeOf24]) [] rfl w
theorem bldHd1 (w : World) : (Instr.build 26 #[(0, U64 1#64)]).run Tryd.prog w = .ok (.agg Hd1.cs.toArray) w := run_buildP (c := Hd0.cs) zvHd Tryd.underlying26 (ps := #[(0, 1), (1, 1), (2, 32), (34, 32), (66, 32)]) (fun w => by simp [Tryd.sizeOf22, Tryd.sizeOf24]) [(0, U64 1#64)] rfl w
def CoA (a : Option Addr) (c : Nat) : Co := ⟨[Z48, Z48], a, c, Z48⟩
theorem CoA_ok (a : Option Addr) : (CoA a 2).Ok := ⟨fun r hr => by simp [CoA] at hr; subst hr; rfl, rfl, Nat.le_refl _⟩
theorem zvCo (w : World) : (zeroValue 31).run Tryd.prog w = .ok (.agg (Value.slice none 0 0 :: Z48.map U8).toArray) w := (Tryd.zeroValue31 w).trans (by rfl)
theorem bldCo (a : Option Addr) (w : World) : (Instr.build 31 #[(0, .slice a 2 2)]).run Tryd.prog w = .ok (.agg (CoA a 2).cs.toArray) w := run_buildP (c := Value.slice none 0 0 :: Z48.map U8) zvCo Tryd.underlying31 (ps := #[(0, 1), (1, 48)]) (fun w => by simp [Tryd.sizeOf27, Tryd.sizeOf29]) [(0, .slice a 2 2)] rfl w
theorem bldR (w : World) : (Instr.build 24 #[]).run Tryd.prog w = .ok (.agg (Z0.map U8).toArray) w := by
  simp [Instr.build, run_underlying Tryd.underlying24, Tryd.sizeOf5, Value.cells, Instr.fill]; rfl
theorem tiK : TI Tryd.prog 29 (.agg (Z48.map U8).toArray) 48 48 := ti_mk (by kernel_rfl)
theorem madeK : (madeCells (Value.agg (Z48.map U8).toArray).cells (2 * 48)).toList = ((Z48 ++ Z48).map U8) := by
  have hz : (Value.agg (Z48.map U8).toArray).cells = (List.replicate 48 (U8 0#8)).toArray := by
    show (Z48.map U8).toArray = _
    rw [Z48, List.map_replicate]
  rw [hz, made_rep _ 48 (by decide)]
  rfl
theorem rws_two {w : World} {b : Nat} (h : w.rangeAt b 0 ((Z48 ++ Z48).map U8)) : RwsAt 48 w (some ⟨b, 0, none⟩) [Z48, Z48] := fun i r hr => by
  refine ⟨_, rfl, fun j v hv => ?_⟩
  have hi : i < 2 := (List.getElem?_eq_some_iff.1 hr).1
  have hz : r = Z48 := by
    obtain rfl | rfl : i = 0 ∨ i = 1 := by omega
    · simpa using hr.symm
    · simpa using hr.symm
  subst hz
  have hj : j < 48 := by have := (List.getElem?_eq_some_iff.1 hv).1; simpa [Z48] using this
  have h2 : ((Z48 ++ Z48).map U8)[i * 48 + j]? = some v := by
    rw [List.map_append]
    obtain rfl | rfl : i = 0 ∨ i = 1 := by omega
    · rw [Nat.zero_mul, Nat.zero_add, List.getElem?_append_left (by simpa [Z48] using hj)]; exact hv
    · rw [List.getElem?_append_right (by simp [Z48]), show 1 * 48 + j - (Z48.map U8).length = j from by simp [Z48]]; exact hv
  have h3 := h _ _ h2
  rw [Addr.add_mid, Addr.add_mid]
  rw [Nat.zero_add] at h3
  rw [Nat.zero_add]
  exact h3
theorem known20 (hR : RootsP) (w : World) (hw : Gt w) : Calls Tryd.prog 7 [].toArray w (fun e w' => e = .returned (.bool true) ∧ Grow w w') := by
  have hGF : BOk Gt (pl w) := gt_low.plain hw
  refine calls_of_X (G := Gt) Tryd.func7 rfl rfl (Hp (pl w) []) (hp_refl (pl w) trivial rides_true) (good_hp hGF) ?_
  refine xs_plain (E := EE [9]) ?_
  refine lx_assign rfl rfl rfl ?_
  refine lx_nil ?_
  refine xs_plain (E := EE [9]) ?_
  refine lx_callE rfl rfl ent9 rfl rfl (fun w1 hC => (hnew_calls w1 (hGF.g _ _ _ hC)).mono fun e1 w2 h => ?_)
  obtain ⟨bm, rfl, hg, hbm, hob⟩ := h
  refine ⟨_, _, rfl, good_hp hGF, hC.news rides_true hg [(2, bm, MK.map U32, 83)] ?_ inj_one, ?_⟩
  · intro n' b' c' t' hl
    rcases lkB_cons hl with ⟨_, e⟩ | ⟨_, hl⟩
    · cases e; exact ⟨hbm, hob⟩
    · cases hl
  clear hC hg hbm hob
  refine lx_allocr 1 hGF zvH rfl rfl ?_
  intro b1
  refine lx_storea 1 hGF rfl rfl rfl Tryd.sizeOf47 rfl rfl (by rfl) rfl ?_
  refine lx_nil ?_
  refine xs_draws (E := EE [9]) [0, 1, 2, 3, 4, 5, 6, 7, 8, 9, 10, 11, 12, 16, 13, 14, 15, 17, 18, 19] mixed rfl (by kernel_rfl) (by kernel_rfl) (by kernel_rfl) ?_
  refine lx_build (ps := []) (vs := []) (v := .agg Hd0.cs.toArray) rfl (fun w => bldHd0 w) rfl rfl ?_
  refine lx_callC rfl rfl ent10 (fun w' hw' hG => hR.hd Hd0 Hd0_ok w' hG) rfl rfl ?_
  obtain ⟨r4, hr4⟩ : ∃ x, x = Hd0.rt := ⟨_, rfl⟩
  rw [← hr4]
  have hl4 : r4.length = 32 := by rw [hr4]; exact Hd.rt_len Hd0_ok
  refine lx_loada 1 rfl rfl Tryd.isAgg47 Tryd.sizeOf47 rfl rfl rfl ?_
  refine lx_callC rfl rfl ent28 (fun w' hw' hG => hzero_calls bm 3 w' hG (hw'.own 2 _ _ _ rfl).1) rfl rfl ?_
  rw [show min (3 : Int).toNat 64 = 3 from rfl]
  obtain ⟨r6, hr6⟩ : ∃ x, x = zrT P2 Z0 3 := ⟨_, rfl⟩
  rw [← hr6]
  have hl6 : r6.length = 32 := by rw [hr6]; exact zr_len 3
  refine lx_binB true rfl rfl (fun w' => eqg24 _ _ _ _ _ w') (fun w' => eqv24 _ _ hl4 hl6 w') (decide_eq_true (by rw [hr4, hr6]; exact hd0_rt)) rfl rfl ?_
  refine lx_move rfl rfl rfl ?_
  refine lx_build (ps := [(0, .const (U64 1#64))]) (vs := [U64 1#64]) (v := .agg Hd1.cs.toArray) rfl (fun w => bldHd1 w) rfl rfl ?_
  refine lx_callC rfl rfl ent10 (fun w' hw' hG => hR.hd Hd1 Hd1_ok w' hG) rfl rfl ?_
  obtain ⟨r10, hr10⟩ : ∃ x, x = Hd1.rt := ⟨_, rfl⟩
  rw [← hr10]
  have hl10 : r10.length = 32 := by rw [hr10]; exact Hd.rt_len Hd1_ok
  refine lx_build (ps := []) (vs := []) (v := .agg Hd0.cs.toArray) rfl (fun w => bldHd0 w) rfl rfl ?_
  refine lx_callC rfl rfl ent10 (fun w' hw' hG => hR.hd Hd0 Hd0_ok w' hG) rfl rfl ?_
  obtain ⟨r12, hr12⟩ : ∃ x, x = Hd0.rt := ⟨_, rfl⟩
  rw [← hr12]
  have hl12 : r12.length = 32 := by rw [hr12]; exact Hd.rt_len Hd0_ok
  refine lx_binB true rfl rfl (fun w' => eqg24 _ _ _ _ _ w') (fun w' => nev24 _ _ hl10 hl12 w') (by rw [decide_eq_false (by rw [hr10, hr12]; exact hd1_ne)]; rfl) rfl rfl ?_
  refine lx_pick rfl rfl rfl rfl rfl ?_
  refine lx_move rfl rfl rfl ?_
  refine lx_build (ps := []) (vs := []) (v := .agg (Z0.map U8).toArray) rfl (fun w => bldR w) rfl rfl ?_
  refine lx_mkslC (l := 2) (m := 2) (c := (Z48 ++ Z48).map U8) 16 hGF rfl rfl (Nat.le_refl _) Tryd.underlying27 tiK ⟨by decide, by decide, by decide⟩ madeK rfl rfl ?_
  intro b16
  refine lx_build (ps := [(0, .tmp 16)]) (vs := [.slice (some ⟨b16, 0, none⟩) 2 2]) (v := .agg (CoA (some ⟨b16, 0, none⟩) 2).cs.toArray) rfl (fun w => bldCo _ w) rfl rfl ?_
  refine lx_callC rfl rfl ent12 (fun w' hw' hG => hR.co (CoA (some ⟨b16, 0, none⟩) 2) (CoA_ok _) (by show 2 ≤ 1000; decide) w' hG (rws_two (hp_row (n := 16) rfl w' hw'))) rfl rfl ?_
  obtain ⟨r18, hr18⟩ : ∃ x, x = (CoA (some ⟨b16, 0, none⟩) 2).rt (CoA (some ⟨b16, 0, none⟩) 2).ks.length := ⟨_, rfl⟩
  rw [← hr18]
  have hl18 : r18.length = 32 := by rw [hr18]; exact Co.rt_len _ _
  refine lx_binB true rfl rfl (fun w' => eqg24 _ _ _ _ _ w') (fun w' => nev24 _ _ hl18 Z0_len w') (by rw [decide_eq_false (by rw [hr18]; exact co2_ne _ _)]; rfl) rfl rfl ?_
  refine lx_pick rfl rfl rfl rfl rfl ?_
  refine lx_assign rfl rfl rfl ?_
  refine lx_nil ?_
  refine x_ret ?_
  repeat (first | refine kseq_ret ?_ | refine kblk_ret ?_)
  exact kret_tmp rfl rfl (fun w' hw' => ⟨rfl, hp_below hw'⟩)
end Go.Proofs.YtldnceanfncdfaaDoor
