/-
 The law PairingChecks.
-/
import Derived.Test.YtpnpiblphnpfiaaGreatDoorTS
import Derived.Test.YtpnpiblphnpfiaaGreatDoorX5
namespace Go.Proofs.YtpnpiblphnpfiaaGreatDoor
open Go.RowKit
set_option maxRecDepth 100000
set_option maxHeartbeats 1000000
attribute [local simp] aL ba aI aH aB bc aF aE aG PLl cf cb N1l ca bY ce aR a9 aJ aW a5 J1.bd J2.bd Q6.bQ Q6.bV
theorem rTU {Q P : Prop} (k : Q) (h : Q → P := by intro k; (refine LY.run ?_); (repeat (first | refine bK rfl rfl rfl ?_ | refine bk rfl rfl rfl ?_ | ((refine BI rfl rfl ?_ rfl rfl ?_); (· simp)) | ((refine EY hGF rfl rfl rfl ?_ ?_ (ak _) rfl ?_); (· simp); (· simp)) | refine bP (f := 13) rfl rfl ent13 (J2.nA) rfl rfl ?_ | refine bP (f := 11) rfl rfl ent11 (J1.nA) rfl rfl ?_ | refine bP (f := 10) rfl rfl ent10 yI rfl rfl ?_ | refine fD rfl rfl rfl rfl rfl ?_)); (first | refine cn ?_ | refine LY.mk ?_); exact k) : P := h k
theorem pTU {Q P : Prop} (k : Q) (h : Q → P := by intro k; (refine xp ?_); (refine rTU ?_); exact k) : P := h k
attribute [local simp] d7 ft cK

namespace Q6
theorem yP {s : Nat} (f : Nat → List (BitVec 64)) (k : Nat) (h : (f k).length = s) : RW s f (k + 1) = RW s f k ++ f k := List.ext_getElem? fun m => by
 rcases Nat.eq_zero_or_pos s with h0 | h0
 ·subst h0
  rw [List.length_eq_zero_iff.1 h, List.append_nil, List.length_eq_zero_iff.1 (show (RW 0 f (k + 1)).length = 0 by rw [cK]; omega), List.length_eq_zero_iff.1 (show (RW 0 f k).length = 0 by rw [cK]; omega)]
 by_cases h1 : m < s * k
 ·rw [gP f (k + 1) m (by rw [Nat.mul_succ]; omega), List.getElem?_append_left (by rw [cK]; exact h1), gP f k m h1]
 ·by_cases h2 : m < s * (k + 1)
  ·have e : m = s * k + (m - s * k) := by omega
   have hlt : m - s * k < s := by rw [Nat.mul_succ] at h2; omega
   have d1 : m / s = k := by rw [e, Nat.mul_add_div h0, Nat.div_eq_of_lt hlt, Nat.add_zero]
   have d2 : m % s = m - s * k := by conv => lhs; rw [e, Nat.mul_add_mod, Nat.mod_eq_of_lt hlt]
   rw [gP f (k + 1) m h2, List.getElem?_append_right (by rw [cK]; omega), cK, d1, d2, List.getD_eq_getElem?_getD, List.getElem?_eq_getElem (by rw [h]; exact hlt)]; rfl
  ·rw [List.getElem?_eq_none (by rw [cK]; omega), List.getElem?_eq_none (by rw [List.length_append, cK, h]; rw [Nat.mul_succ] at h2; omega)]
theorem tiP : TI Tryz.prog 77 (.agg ((List.replicate 54 (0#64)).map U64).toArray) 54 432 := zW (by kernel_rfl)
theorem gB {B : Bs} {L : Hl} {Y : Nat → Prop} {a0 : Option Addr} {cap k : Nat} {f : Nat → J1.GP × J2.GP} {w : World} (hC : Hq B L Y w) (hw : Gt w) (h : OwnW L 50 77 54 a0 cap k ((RW 54 (fun i => PRv (f i)) k).map U64)) (hk : k ≤ 1000) (hf : ∀ i, E2w.times (f i).2.P ORD = none) : Calls Tryz.prog 38 [.slice a0 k cap].toArray w (fun r w' => r = .returned (.bool (decide (PRN f k = K12.one))) ∧ Grow w w') := by
 rcases h with ⟨rfl, _, rfl, rfl⟩ | ⟨b, c, rfl, hl, _, _, _, ht⟩
 ·rw [show decide (PRN f 0 = K12.one) = true from decide_eq_true rfl]
  exact jQ w hw
 ·refine tC k f b cap hk (fun i _ => hf i) w hw fun j v hv => ?_
  rw [Nat.zero_add]
  refine cF hl ?_ w hC
  rw [← ht, List.getElem?_take] at hv
  split at hv
  ·exact hv
  ·cases hv
theorem qz0 : Pure Tryz.prog Gt 39 [.agg ((List.replicate 6 0#64).map U64).toArray] (.bool true) := by
 have h := fy 0
 rw [show RV 0 = .agg ((List.replicate 6 0#64).map U64).toArray from by rw [RV, sG], show decide ((0 : Zr) = 0) = true from decide_eq_true rfl] at h
 exact h
theorem vA {p : Nat × List Value × TypeId} {own : Hl} (ho : own = [] ∨ ∃ z, own = [(50, z)]) {n : Nat} (h7 : Nat.beq 7 n = false) (h50 : Nat.beq 50 n = false) : lkB ((7, p) :: own) n = none := by
 rcases ho with rfl | ⟨z, rfl⟩ <;> simp [lkB, h7, h50]
structure CkV (x y : Nat → Zr) (m : Nat) where
 (k : Nat) (a0 : Option Addr) (cap : Nat) (own : Hl)
 hk : k ≤ m
 hs : OwnW own 50 77 54 a0 cap k ((RW 54 (fun i => PRv (CF x y i)) k).map U64)
 ho : own = [] ∨ ∃ z, own = [(50, z)]
theorem D2 (e0 : Option Addr) (n0 cap0 : Nat) (e1 : Option Addr) (n1 cap1 : Nat) (h0 : ¬ n0 ≤ 4) (rt : Bool) (w : World) (hw : Gt w) : Calls Tryz.prog 6 [.slice e0 n0 cap0, .slice e1 n1 cap1, .bool rt].toArray w (fun r w' => r = .returned (.bool true) ∧ Grow w w') := by
 have hGF : BOk Gt (pl w) := gt_low.plain hw
 refine aN (G := Gt) Tryz.func6 rfl rfl (Hp (pl w) []) (aZ (pl w) trivial ai) (ap hGF) ?_
 refine pTU ?_
 refine aj ?_
 refine pTU ?_
 refine bH rfl (fun _ => bt _) rfl rfl ?_
 refine aa ?_
 refine bg rfl ?_
 refine aD ?_
 refine aj ?_
 refine pTU ?_
 refine aX rfl (fun _ => au Tryz.underlying74 _ _ _ _) rfl rfl ?_
 refine aM true rfl rfl (fun _ => rfl) (fun _ => bv _ _ _) (decide_eq_true (by omega)) rfl rfl ?_
 refine rTU ?_
 refine aU rfl rfl rfl ?_
 refine aU rfl rfl rfl ?_
 refine aU rfl rfl rfl ?_
 refine rTU ?_
 refine bF rfl ?_
 refine pTU ?_
 refine cG ?_
 repeat (first | refine aQ ?_ | refine aP ?_ | refine bO ?_)
 exact aV rfl rfl (fun w hw => ⟨rfl, ac hw⟩)
theorem Cs (e0 : Option Addr) (n0 cap0 : Nat) (e1 : Option Addr) (n1 cap1 : Nat) (h0 : n0 ≤ 4) (h1 : ¬ n1 ≤ 4) (rt : Bool) (w : World) (hw : Gt w) : Calls Tryz.prog 6 [.slice e0 n0 cap0, .slice e1 n1 cap1, .bool rt].toArray w (fun r w' => r = .returned (.bool true) ∧ Grow w w') := by
 have hGF : BOk Gt (pl w) := gt_low.plain hw
 refine aN (G := Gt) Tryz.func6 rfl rfl (Hp (pl w) []) (aZ (pl w) trivial ai) (ap hGF) ?_
 refine pTU ?_
 refine aj ?_
 refine pTU ?_
 refine bH rfl (fun _ => bt _) rfl rfl ?_
 refine aa ?_
 refine bg rfl ?_
 refine aD ?_
 refine aj ?_
 refine pTU ?_
 refine aX rfl (fun _ => au Tryz.underlying74 _ _ _ _) rfl rfl ?_
 refine aM false rfl rfl (fun _ => rfl) (fun _ => bv _ _ _) (decide_eq_false (by omega)) rfl rfl ?_
 refine rTU ?_
 refine aX rfl (fun _ => au Tryz.underlying74 _ _ _ _) rfl rfl ?_
 refine aM true rfl rfl (fun _ => rfl) (fun _ => bv _ _ _) (decide_eq_true (by omega)) rfl rfl ?_
 refine rTU ?_
 refine bF rfl ?_
 refine pTU ?_
 refine cG ?_
 repeat (first | refine aQ ?_ | refine aP ?_ | refine bO ?_)
 exact aV rfl rfl (fun w hw => ⟨rfl, ac hw⟩)
theorem Gk (e0 : Option Addr) (n0 cap0 : Nat) (e1 : Option Addr) (n1 cap1 : Nat) (g0 g1 : BSs) (x y : Nat → Zr) (hn0 : n0 ≤ 4) (hn1 : n1 ≤ 4) (hW0 : ∀ k, k < n0 → (g0 k).2.2.length ≤ 32 → ∀ w', Gt w' → BytesAt w' (g0 k).1 (g0 k).2.2 → Calls Tryz.prog 27 [.slice (g0 k).1 (g0 k).2.2.length (g0 k).2.1].toArray w' (fun r w'' => r = .returned (RV (x k)) ∧ Grow w' w'')) (hW1 : ∀ k, k < n1 → (g1 k).2.2.length ≤ 32 → ∀ w', Gt w' → BytesAt w' (g1 k).1 (g1 k).2.2 → Calls Tryz.prog 27 [.slice (g1 k).1 (g1 k).2.2.length (g1 k).2.1].toArray w' (fun r w'' => r = .returned (RV (y k)) ∧ Grow w' w'')) (w : World) (hw : Gt w) (h0 : eX w e0 n0 g0) (h1 : eX w e1 n1 g1) : Calls Tryz.prog 6 [.slice e0 n0 cap0, .slice e1 n1 cap1, .bool false].toArray w (fun r w' => r = .returned (.bool true) ∧ Grow w w') := by
 have hGF : BOk Gt (pl w) := gt_low.plain hw
 refine aN (G := Gt) Tryz.func6 rfl rfl (Hp (pl w) []) (aZ (pl w) trivial ai) (ap hGF) ?_
 refine pTU ?_
 refine aj ?_
 refine pTU ?_
 refine bH rfl (fun _ => bt _) rfl rfl ?_
 refine aa ?_
 refine bg rfl ?_
 refine aD ?_
 refine aj ?_
 refine pTU ?_
 refine aX rfl (fun _ => au Tryz.underlying74 _ _ _ _) rfl rfl ?_
 refine aM false rfl rfl (fun _ => rfl) (fun _ => bv _ _ _) (decide_eq_false (by omega)) rfl rfl ?_
 refine rTU ?_
 refine aX rfl (fun _ => au Tryz.underlying74 _ _ _ _) rfl rfl ?_
 refine aM false rfl rfl (fun _ => rfl) (fun _ => bv _ _ _) (decide_eq_false (by omega)) rfl rfl ?_
 refine rTU ?_
 refine bg rfl ?_
 refine aD ?_
 refine xp ?_
 refine la zv63 fun b7 => ?_
 refine aa ?_
 refine pTU ?_
 refine aj ?_
 refine pTU ?_
 refine am ?_
 refine cp (ι := CkV x y (min n0 n1)) (fun z => [(0, .slice e0 n0 cap0), (1, .slice e1 n1 cap1), (2, .bool false), (7, .pointer (some ⟨b7, 0, none⟩)), (8, .slice z.a0 z.k z.cap), (9, I (z.k : Int))]) (fun z => (7, b7, (nr (SM x y z.k)).map U64, 63) :: z.own) (fun z => min n0 n1 - z.k) ⟨0, none, 0, [], by omega, kl _ _ _ _, .inl rfl⟩ hGF ⟨rfl, rfl, rfl, rfl, rfl, rfl, trivial⟩ ⟨by rw [SM, sG]; rfl, trivial⟩ ?_
 rintro ⟨k, a0, cap, own, hk, hs, ho⟩
 dsimp only at hs ho ⊢
 by_cases hk0 : k < n0
 ·by_cases hk1 : k < n1
  ·obtain ⟨⟨ad0, rfl, hc0⟩, hl0, hb0⟩ := h0 k hk0
   obtain ⟨⟨ad1, rfl, hc1⟩, hl1, hb1⟩ := h1 k hk1
   by_cases hs0 : (g0 k).2.2.length ≤ 32
   ·by_cases hs1 : (g1 k).2.2.length ≤ 32
    ·skip
     refine aj ?_
     refine pTU ?_
     refine aX rfl (fun _ => au Tryz.underlying74 _ _ _ _) rfl rfl ?_
     refine aM true rfl rfl (fun _ => rfl) (fun _ => aA _ _ _) (decide_eq_true (by omega)) rfl rfl ?_
     refine rTU ?_
     refine aX rfl (fun _ => au Tryz.underlying74 _ _ _ _) rfl rfl ?_
     refine aM true rfl rfl (fun _ => rfl) (fun _ => aA _ _ _) (decide_eq_true (by omega)) rfl rfl ?_
     refine rTU ?_
     refine bF rfl ?_
     refine aD ?_
     refine aj ?_
     refine am ?_
     refine aj ?_
     refine pTU ?_
     refine c8 k rfl rfl Tryz.underlying74 Tryz.sizeOf22 rfl (by omega) rfl rfl ?_
     refine bJ (v := .slice (g0 k).1 (g0 k).2.2.length (g0 k).2.1) rfl Tryz.isAgg22 (fun w' h => ((ac h).cell (block_lt_of_cell hc0)).trans hc0) rfl rfl ?_
     refine aX rfl (fun _ => au Tryz.underlying22 _ _ _ _) rfl rfl ?_
     refine aM false rfl rfl (fun _ => rfl) (fun _ => bv _ _ _) (decide_eq_false (by omega)) rfl rfl ?_
     refine rTU ?_
     refine c8 k rfl rfl Tryz.underlying74 Tryz.sizeOf22 rfl (by omega) rfl rfl ?_
     refine bJ (v := .slice (g1 k).1 (g1 k).2.2.length (g1 k).2.1) rfl Tryz.isAgg22 (fun w' h => ((ac h).cell (block_lt_of_cell hc1)).trans hc1) rfl rfl ?_
     refine aX rfl (fun _ => au Tryz.underlying22 _ _ _ _) rfl rfl ?_
     refine aM false rfl rfl (fun _ => rfl) (fun _ => bv _ _ _) (decide_eq_false (by omega)) rfl rfl ?_
     refine rTU ?_
     refine bg rfl ?_
     refine aD ?_
     refine cg (E := EE [2999999]) [0, 1, 2, 3, 4, 5, 6, 7, 8, 9] [⟨10, 10, 63, (List.replicate 6 0#64).map U64⟩, ⟨11, 11, 63, (List.replicate 6 0#64).map U64⟩] [12, 13] bi rfl (by kernel_rfl) (by kernel_rfl) (by kernel_rfl) (by kernel_rfl) (by kernel_rfl) (by kernel_rfl) (by decide) (by intro x hx; simp only [List.mem_cons, List.not_mem_nil, or_false] at hx; rcases hx with rfl | rfl <;> exact bB rfl zv63 rfl) ?_
     refine rTU ?_
     refine c8 k rfl rfl Tryz.underlying74 Tryz.sizeOf22 rfl (by omega) rfl rfl ?_
     refine bJ (v := .slice (g0 k).1 (g0 k).2.2.length (g0 k).2.1) rfl Tryz.isAgg22 (fun w' h => ((ac h).cell (block_lt_of_cell hc0)).trans hc0) rfl rfl ?_
     refine bz rfl rfl ent27 (fun w' hC hG => hW0 k hk0 hs0 w' hG (hb0.grow (ac hC))) rfl rfl ?_
     refine rTU ?_
     refine c8 k rfl rfl Tryz.underlying74 Tryz.sizeOf22 rfl (by omega) rfl rfl ?_
     refine bJ (v := .slice (g1 k).1 (g1 k).2.2.length (g1 k).2.1) rfl Tryz.isAgg22 (fun w' h => ((ac h).cell (block_lt_of_cell hc1)).trans hc1) rfl rfl ?_
     refine bz rfl rfl ent27 (fun w' hC hG => hW1 k hk1 hs1 w' hG (hb1.grow (ac hC))) rfl rfl ?_
     refine aa ?_
     refine ⟨_, _, rfl, hGF, by intro x hx; simp only [List.mem_cons, List.not_mem_nil, or_false] at hx; rcases hx with rfl | rfl <;> rfl, by intro x hx; simp only [List.mem_cons, List.not_mem_nil, or_false] at hx; rcases hx with rfl | rfl <;> exact vA ho rfl rfl, fun adr => ?_⟩
     refine rTU ?_
     refine bl (E := EE []) bi (by kernel_rfl) (by kernel_rfl) (by kernel_rfl) ?_
     refine rTU ?_
     refine az rfl rfl ent28 (lF (x k) (y k)) rfl rfl ?_
     refine az rfl rfl ent36 (iD (SM x y k) ((x k) * (y k))) rfl rfl ?_
     refine rTU ?_
     refine c9 (E := EE []) bi (by kernel_rfl) (by kernel_rfl) (by kernel_rfl) ?_
     refine rTU ?_
     refine az rfl rfl ent31 (J1.fF J1.gGen (x k)) rfl rfl ?_
     refine rTU ?_
     refine az rfl rfl ent32 (J2.fF J2.gGen (y k)) rfl rfl ?_
     refine dw lx rfl rfl (by simp) (by simp) rfl rfl ?_
     refine eG 71 ((PRv (J1.cH J1.gGen (x k), J2.cH J2.gGen (y k))).map U64) hGF rfl (by simp) (by decide) (by decide) Tryz.underlying75 Tryz.sizeOf77 zv77 rfl rfl ?_
     intro b71
     refine el (s := 54) (nx := k) (ny := 1) (xs := (RW 54 (fun i => PRv (CF x y i)) k).map U64) (ys := (PRv (J1.cH J1.gGen (x k), J2.cH J2.gGen (y k))).map U64) 50 hGF rfl rfl Tryz.underlying75 Tryz.underlying75 tiP rfl (OwnW.of hs rfl) (by simp) (fun w' h => cx (n := 71) rfl w' h) (ak _) (by decide) (by omega) (by omega) rfl rfl (fun bA cA capA eA lA tA => ?_)
     refine rTU ?_
     refine av (E := EE []) ?_
     refine rTU ?_
     refine ah (v := I ((k + 1 : Nat) : Int)) rfl rfl (fun _ => rfl) (fun _ => (aO _ _ _ (by unfold inI; omega)).trans (by rfl)) rfl rfl ?_
     refine rTU ?_
     repeat (first | refine a6 ?_ | refine bX ?_)
     refine bC ?_
     have eR : (RW 54 (fun i => PRv (CF x y i)) (k + 1)).map U64 = (RW 54 (fun i => PRv (CF x y i)) k).map U64 ++ (PRv (CF x y k)).map U64 := by rw [yP _ k (bV _), List.map_append]
     exact ⟨rfl, ⟨k + 1, some ⟨bA, 0, none⟩, capA, [(50, bA, cA, 77)], by omega, .inr ⟨bA, cA, rfl, rfl, eA, by omega, by simp; omega, by rw [eR]; exact tA⟩, .inr ⟨_, rfl⟩⟩, _, by show min n0 n1 - (k + 1) < min n0 n1 - k; omega, rfl, ⟨rfl, rfl, rfl, rfl, rfl, rfl, trivial⟩, ⟨rfl, rfl, trivial⟩⟩
    ·skip
     refine aj ?_
     refine pTU ?_
     refine aX rfl (fun _ => au Tryz.underlying74 _ _ _ _) rfl rfl ?_
     refine aM true rfl rfl (fun _ => rfl) (fun _ => aA _ _ _) (decide_eq_true (by omega)) rfl rfl ?_
     refine rTU ?_
     refine aX rfl (fun _ => au Tryz.underlying74 _ _ _ _) rfl rfl ?_
     refine aM true rfl rfl (fun _ => rfl) (fun _ => aA _ _ _) (decide_eq_true (by omega)) rfl rfl ?_
     refine rTU ?_
     refine bF rfl ?_
     refine aD ?_
     refine aj ?_
     refine am ?_
     refine aj ?_
     refine pTU ?_
     refine c8 k rfl rfl Tryz.underlying74 Tryz.sizeOf22 rfl (by omega) rfl rfl ?_
     refine bJ (v := .slice (g0 k).1 (g0 k).2.2.length (g0 k).2.1) rfl Tryz.isAgg22 (fun w' h => ((ac h).cell (block_lt_of_cell hc0)).trans hc0) rfl rfl ?_
     refine aX rfl (fun _ => au Tryz.underlying22 _ _ _ _) rfl rfl ?_
     refine aM false rfl rfl (fun _ => rfl) (fun _ => bv _ _ _) (decide_eq_false (by omega)) rfl rfl ?_
     refine rTU ?_
     refine c8 k rfl rfl Tryz.underlying74 Tryz.sizeOf22 rfl (by omega) rfl rfl ?_
     refine bJ (v := .slice (g1 k).1 (g1 k).2.2.length (g1 k).2.1) rfl Tryz.isAgg22 (fun w' h => ((ac h).cell (block_lt_of_cell hc1)).trans hc1) rfl rfl ?_
     refine aX rfl (fun _ => au Tryz.underlying22 _ _ _ _) rfl rfl ?_
     refine aM true rfl rfl (fun _ => rfl) (fun _ => bv _ _ _) (decide_eq_true (by omega)) rfl rfl ?_
     refine rTU ?_
     refine bF rfl ?_
     refine pTU ?_
     refine cG ?_
     repeat (first | refine aQ ?_ | refine aP ?_ | refine bO ?_)
     exact aV rfl rfl (fun w hw => ⟨rfl, ac hw⟩)
   ·skip
    refine aj ?_
    refine pTU ?_
    refine aX rfl (fun _ => au Tryz.underlying74 _ _ _ _) rfl rfl ?_
    refine aM true rfl rfl (fun _ => rfl) (fun _ => aA _ _ _) (decide_eq_true (by omega)) rfl rfl ?_
    refine rTU ?_
    refine aX rfl (fun _ => au Tryz.underlying74 _ _ _ _) rfl rfl ?_
    refine aM true rfl rfl (fun _ => rfl) (fun _ => aA _ _ _) (decide_eq_true (by omega)) rfl rfl ?_
    refine rTU ?_
    refine bF rfl ?_
    refine aD ?_
    refine aj ?_
    refine am ?_
    refine aj ?_
    refine pTU ?_
    refine c8 k rfl rfl Tryz.underlying74 Tryz.sizeOf22 rfl (by omega) rfl rfl ?_
    refine bJ (v := .slice (g0 k).1 (g0 k).2.2.length (g0 k).2.1) rfl Tryz.isAgg22 (fun w' h => ((ac h).cell (block_lt_of_cell hc0)).trans hc0) rfl rfl ?_
    refine aX rfl (fun _ => au Tryz.underlying22 _ _ _ _) rfl rfl ?_
    refine aM true rfl rfl (fun _ => rfl) (fun _ => bv _ _ _) (decide_eq_true (by omega)) rfl rfl ?_
    refine rTU ?_
    refine aU rfl rfl rfl ?_
    refine aU rfl rfl rfl ?_
    refine aU rfl rfl rfl ?_
    refine aU rfl rfl rfl ?_
    refine aU rfl rfl rfl ?_
    refine aU rfl rfl rfl ?_
    refine rTU ?_
    refine bF rfl ?_
    refine pTU ?_
    refine cG ?_
    repeat (first | refine aQ ?_ | refine aP ?_ | refine bO ?_)
    exact aV rfl rfl (fun w hw => ⟨rfl, ac hw⟩)
  ·skip
   refine aj ?_
   refine pTU ?_
   refine aX rfl (fun _ => au Tryz.underlying74 _ _ _ _) rfl rfl ?_
   refine aM true rfl rfl (fun _ => rfl) (fun _ => aA _ _ _) (decide_eq_true (by omega)) rfl rfl ?_
   refine rTU ?_
   refine aX rfl (fun _ => au Tryz.underlying74 _ _ _ _) rfl rfl ?_
   refine aM false rfl rfl (fun _ => rfl) (fun _ => aA _ _ _) (decide_eq_false (by omega)) rfl rfl ?_
   refine rTU ?_
   refine bg rfl ?_
   refine bf ?_
   refine aj ?_
   refine pTU ?_
   refine bg rfl ?_
   refine aD ?_
   refine bl (E := EE []) bi (by kernel_rfl) (by kernel_rfl) (by kernel_rfl) ?_
   refine rTU ?_
   refine bz rfl rfl ent38 (fun w' hC hG => gB (f := CF x y) hC hG (OwnW.of hs rfl) (by omega) (pB x y)) rfl rfl ?_
   refine rTU ?_
   refine az rfl rfl ent39 (fy (SM x y k)) rfl rfl ?_
   refine aM true rfl rfl (fun _ => rfl) (fun w => df 4 Tryz.underlying4 _ _ w) (wg x y k) rfl rfl ?_
   refine rTU ?_
   refine cG ?_
   repeat (first | refine aQ ?_ | refine aP ?_ | refine bO ?_)
   exact aV rfl rfl (fun w hw => ⟨rfl, ac hw⟩)
 ·skip
  refine aj ?_
  refine pTU ?_
  refine aX rfl (fun _ => au Tryz.underlying74 _ _ _ _) rfl rfl ?_
  refine aM false rfl rfl (fun _ => rfl) (fun _ => aA _ _ _) (decide_eq_false (by omega)) rfl rfl ?_
  refine rTU ?_
  refine aU rfl rfl rfl ?_
  refine aU rfl rfl rfl ?_
  refine aU rfl rfl rfl ?_
  refine aU rfl rfl rfl ?_
  refine rTU ?_
  refine bg rfl ?_
  refine bf ?_
  refine aj ?_
  refine pTU ?_
  refine bg rfl ?_
  refine aD ?_
  refine bl (E := EE []) bi (by kernel_rfl) (by kernel_rfl) (by kernel_rfl) ?_
  refine rTU ?_
  refine bz rfl rfl ent38 (fun w' hC hG => gB (f := CF x y) hC hG (OwnW.of hs rfl) (by omega) (pB x y)) rfl rfl ?_
  refine rTU ?_
  refine az rfl rfl ent39 (fy (SM x y k)) rfl rfl ?_
  refine aM true rfl rfl (fun _ => rfl) (fun w => df 4 Tryz.underlying4 _ _ w) (wg x y k) rfl rfl ?_
  refine rTU ?_
  refine cG ?_
  repeat (first | refine aQ ?_ | refine aP ?_ | refine bO ?_)
  exact aV rfl rfl (fun w hw => ⟨rfl, ac hw⟩)
theorem FY (e0 : Option Addr) (n0 cap0 : Nat) (e1 : Option Addr) (n1 cap1 : Nat) (g0 g1 : BSs) (x y : Nat → Zr) (hn0 : n0 ≤ 4) (hn1 : n1 ≤ 4) (hW0 : ∀ k, k < n0 → (g0 k).2.2.length ≤ 32 → ∀ w', Gt w' → BytesAt w' (g0 k).1 (g0 k).2.2 → Calls Tryz.prog 27 [.slice (g0 k).1 (g0 k).2.2.length (g0 k).2.1].toArray w' (fun r w'' => r = .returned (RV (x k)) ∧ Grow w' w'')) (hW1 : ∀ k, k < n1 → (g1 k).2.2.length ≤ 32 → ∀ w', Gt w' → BytesAt w' (g1 k).1 (g1 k).2.2 → Calls Tryz.prog 27 [.slice (g1 k).1 (g1 k).2.2.length (g1 k).2.1].toArray w' (fun r w'' => r = .returned (RV (y k)) ∧ Grow w' w'')) (w : World) (hw : Gt w) (h0 : eX w e0 n0 g0) (h1 : eX w e1 n1 g1) : Calls Tryz.prog 6 [.slice e0 n0 cap0, .slice e1 n1 cap1, .bool true].toArray w (fun r w' => r = .returned (.bool true) ∧ Grow w w') := by
 have hGF : BOk Gt (pl w) := gt_low.plain hw
 refine aN (G := Gt) Tryz.func6 rfl rfl (Hp (pl w) []) (aZ (pl w) trivial ai) (ap hGF) ?_
 refine pTU ?_
 refine aj ?_
 refine pTU ?_
 refine bH rfl (fun _ => bt _) rfl rfl ?_
 refine aa ?_
 refine bg rfl ?_
 refine aD ?_
 refine aj ?_
 refine pTU ?_
 refine aX rfl (fun _ => au Tryz.underlying74 _ _ _ _) rfl rfl ?_
 refine aM false rfl rfl (fun _ => rfl) (fun _ => bv _ _ _) (decide_eq_false (by omega)) rfl rfl ?_
 refine rTU ?_
 refine aX rfl (fun _ => au Tryz.underlying74 _ _ _ _) rfl rfl ?_
 refine aM false rfl rfl (fun _ => rfl) (fun _ => bv _ _ _) (decide_eq_false (by omega)) rfl rfl ?_
 refine rTU ?_
 refine bg rfl ?_
 refine aD ?_
 refine xp ?_
 refine la zv63 fun b7 => ?_
 refine aa ?_
 refine pTU ?_
 refine aj ?_
 refine pTU ?_
 refine am ?_
 refine cp (ι := CkV x y (min n0 n1)) (fun z => [(0, .slice e0 n0 cap0), (1, .slice e1 n1 cap1), (2, .bool true), (7, .pointer (some ⟨b7, 0, none⟩)), (8, .slice z.a0 z.k z.cap), (9, I (z.k : Int))]) (fun z => (7, b7, (nr (SM x y z.k)).map U64, 63) :: z.own) (fun z => min n0 n1 - z.k) ⟨0, none, 0, [], by omega, kl _ _ _ _, .inl rfl⟩ hGF ⟨rfl, rfl, rfl, rfl, rfl, rfl, trivial⟩ ⟨by rw [SM, sG]; rfl, trivial⟩ ?_
 rintro ⟨k, a0, cap, own, hk, hs, ho⟩
 dsimp only at hs ho ⊢
 by_cases hk0 : k < n0
 ·by_cases hk1 : k < n1
  ·obtain ⟨⟨ad0, rfl, hc0⟩, hl0, hb0⟩ := h0 k hk0
   obtain ⟨⟨ad1, rfl, hc1⟩, hl1, hb1⟩ := h1 k hk1
   by_cases hs0 : (g0 k).2.2.length ≤ 32
   ·by_cases hs1 : (g1 k).2.2.length ≤ 32
    ·skip
     refine aj ?_
     refine pTU ?_
     refine aX rfl (fun _ => au Tryz.underlying74 _ _ _ _) rfl rfl ?_
     refine aM true rfl rfl (fun _ => rfl) (fun _ => aA _ _ _) (decide_eq_true (by omega)) rfl rfl ?_
     refine rTU ?_
     refine aX rfl (fun _ => au Tryz.underlying74 _ _ _ _) rfl rfl ?_
     refine aM true rfl rfl (fun _ => rfl) (fun _ => aA _ _ _) (decide_eq_true (by omega)) rfl rfl ?_
     refine rTU ?_
     refine bF rfl ?_
     refine aD ?_
     refine aj ?_
     refine am ?_
     refine aj ?_
     refine pTU ?_
     refine c8 k rfl rfl Tryz.underlying74 Tryz.sizeOf22 rfl (by omega) rfl rfl ?_
     refine bJ (v := .slice (g0 k).1 (g0 k).2.2.length (g0 k).2.1) rfl Tryz.isAgg22 (fun w' h => ((ac h).cell (block_lt_of_cell hc0)).trans hc0) rfl rfl ?_
     refine aX rfl (fun _ => au Tryz.underlying22 _ _ _ _) rfl rfl ?_
     refine aM false rfl rfl (fun _ => rfl) (fun _ => bv _ _ _) (decide_eq_false (by omega)) rfl rfl ?_
     refine rTU ?_
     refine c8 k rfl rfl Tryz.underlying74 Tryz.sizeOf22 rfl (by omega) rfl rfl ?_
     refine bJ (v := .slice (g1 k).1 (g1 k).2.2.length (g1 k).2.1) rfl Tryz.isAgg22 (fun w' h => ((ac h).cell (block_lt_of_cell hc1)).trans hc1) rfl rfl ?_
     refine aX rfl (fun _ => au Tryz.underlying22 _ _ _ _) rfl rfl ?_
     refine aM false rfl rfl (fun _ => rfl) (fun _ => bv _ _ _) (decide_eq_false (by omega)) rfl rfl ?_
     refine rTU ?_
     refine bg rfl ?_
     refine aD ?_
     refine cg (E := EE [2999999]) [0, 1, 2, 3, 4, 5, 6, 7, 8, 9] [⟨10, 10, 63, (List.replicate 6 0#64).map U64⟩, ⟨11, 11, 63, (List.replicate 6 0#64).map U64⟩] [12, 13] bi rfl (by kernel_rfl) (by kernel_rfl) (by kernel_rfl) (by kernel_rfl) (by kernel_rfl) (by kernel_rfl) (by decide) (by intro x hx; simp only [List.mem_cons, List.not_mem_nil, or_false] at hx; rcases hx with rfl | rfl <;> exact bB rfl zv63 rfl) ?_
     refine rTU ?_
     refine c8 k rfl rfl Tryz.underlying74 Tryz.sizeOf22 rfl (by omega) rfl rfl ?_
     refine bJ (v := .slice (g0 k).1 (g0 k).2.2.length (g0 k).2.1) rfl Tryz.isAgg22 (fun w' h => ((ac h).cell (block_lt_of_cell hc0)).trans hc0) rfl rfl ?_
     refine bz rfl rfl ent27 (fun w' hC hG => hW0 k hk0 hs0 w' hG (hb0.grow (ac hC))) rfl rfl ?_
     refine rTU ?_
     refine c8 k rfl rfl Tryz.underlying74 Tryz.sizeOf22 rfl (by omega) rfl rfl ?_
     refine bJ (v := .slice (g1 k).1 (g1 k).2.2.length (g1 k).2.1) rfl Tryz.isAgg22 (fun w' h => ((ac h).cell (block_lt_of_cell hc1)).trans hc1) rfl rfl ?_
     refine bz rfl rfl ent27 (fun w' hC hG => hW1 k hk1 hs1 w' hG (hb1.grow (ac hC))) rfl rfl ?_
     refine aa ?_
     refine ⟨_, _, rfl, hGF, by intro x hx; simp only [List.mem_cons, List.not_mem_nil, or_false] at hx; rcases hx with rfl | rfl <;> rfl, by intro x hx; simp only [List.mem_cons, List.not_mem_nil, or_false] at hx; rcases hx with rfl | rfl <;> exact vA ho rfl rfl, fun adr => ?_⟩
     refine rTU ?_
     refine bl (E := EE []) bi (by kernel_rfl) (by kernel_rfl) (by kernel_rfl) ?_
     refine rTU ?_
     refine az rfl rfl ent28 (lF (x k) (y k)) rfl rfl ?_
     refine az rfl rfl ent36 (iD (SM x y k) ((x k) * (y k))) rfl rfl ?_
     refine rTU ?_
     refine c9 (E := EE []) bi (by kernel_rfl) (by kernel_rfl) (by kernel_rfl) ?_
     refine rTU ?_
     refine az rfl rfl ent31 (J1.fF J1.gGen (x k)) rfl rfl ?_
     refine rTU ?_
     refine az rfl rfl ent32 (J2.fF J2.gGen (y k)) rfl rfl ?_
     refine dw lx rfl rfl (by simp) (by simp) rfl rfl ?_
     refine eG 71 ((PRv (J1.cH J1.gGen (x k), J2.cH J2.gGen (y k))).map U64) hGF rfl (by simp) (by decide) (by decide) Tryz.underlying75 Tryz.sizeOf77 zv77 rfl rfl ?_
     intro b71
     refine el (s := 54) (nx := k) (ny := 1) (xs := (RW 54 (fun i => PRv (CF x y i)) k).map U64) (ys := (PRv (J1.cH J1.gGen (x k), J2.cH J2.gGen (y k))).map U64) 50 hGF rfl rfl Tryz.underlying75 Tryz.underlying75 tiP rfl (OwnW.of hs rfl) (by simp) (fun w' h => cx (n := 71) rfl w' h) (ak _) (by decide) (by omega) (by omega) rfl rfl (fun bA cA capA eA lA tA => ?_)
     refine rTU ?_
     refine av (E := EE []) ?_
     refine rTU ?_
     refine ah (v := I ((k + 1 : Nat) : Int)) rfl rfl (fun _ => rfl) (fun _ => (aO _ _ _ (by unfold inI; omega)).trans (by rfl)) rfl rfl ?_
     refine rTU ?_
     repeat (first | refine a6 ?_ | refine bX ?_)
     refine bC ?_
     have eR : (RW 54 (fun i => PRv (CF x y i)) (k + 1)).map U64 = (RW 54 (fun i => PRv (CF x y i)) k).map U64 ++ (PRv (CF x y k)).map U64 := by rw [yP _ k (bV _), List.map_append]
     exact ⟨rfl, ⟨k + 1, some ⟨bA, 0, none⟩, capA, [(50, bA, cA, 77)], by omega, .inr ⟨bA, cA, rfl, rfl, eA, by omega, by simp; omega, by rw [eR]; exact tA⟩, .inr ⟨_, rfl⟩⟩, _, by show min n0 n1 - (k + 1) < min n0 n1 - k; omega, rfl, ⟨rfl, rfl, rfl, rfl, rfl, rfl, trivial⟩, ⟨rfl, rfl, trivial⟩⟩
    ·skip
     refine aj ?_
     refine pTU ?_
     refine aX rfl (fun _ => au Tryz.underlying74 _ _ _ _) rfl rfl ?_
     refine aM true rfl rfl (fun _ => rfl) (fun _ => aA _ _ _) (decide_eq_true (by omega)) rfl rfl ?_
     refine rTU ?_
     refine aX rfl (fun _ => au Tryz.underlying74 _ _ _ _) rfl rfl ?_
     refine aM true rfl rfl (fun _ => rfl) (fun _ => aA _ _ _) (decide_eq_true (by omega)) rfl rfl ?_
     refine rTU ?_
     refine bF rfl ?_
     refine aD ?_
     refine aj ?_
     refine am ?_
     refine aj ?_
     refine pTU ?_
     refine c8 k rfl rfl Tryz.underlying74 Tryz.sizeOf22 rfl (by omega) rfl rfl ?_
     refine bJ (v := .slice (g0 k).1 (g0 k).2.2.length (g0 k).2.1) rfl Tryz.isAgg22 (fun w' h => ((ac h).cell (block_lt_of_cell hc0)).trans hc0) rfl rfl ?_
     refine aX rfl (fun _ => au Tryz.underlying22 _ _ _ _) rfl rfl ?_
     refine aM false rfl rfl (fun _ => rfl) (fun _ => bv _ _ _) (decide_eq_false (by omega)) rfl rfl ?_
     refine rTU ?_
     refine c8 k rfl rfl Tryz.underlying74 Tryz.sizeOf22 rfl (by omega) rfl rfl ?_
     refine bJ (v := .slice (g1 k).1 (g1 k).2.2.length (g1 k).2.1) rfl Tryz.isAgg22 (fun w' h => ((ac h).cell (block_lt_of_cell hc1)).trans hc1) rfl rfl ?_
     refine aX rfl (fun _ => au Tryz.underlying22 _ _ _ _) rfl rfl ?_
     refine aM true rfl rfl (fun _ => rfl) (fun _ => bv _ _ _) (decide_eq_true (by omega)) rfl rfl ?_
     refine rTU ?_
     refine bF rfl ?_
     refine pTU ?_
     refine cG ?_
     repeat (first | refine aQ ?_ | refine aP ?_ | refine bO ?_)
     exact aV rfl rfl (fun w hw => ⟨rfl, ac hw⟩)
   ·skip
    refine aj ?_
    refine pTU ?_
    refine aX rfl (fun _ => au Tryz.underlying74 _ _ _ _) rfl rfl ?_
    refine aM true rfl rfl (fun _ => rfl) (fun _ => aA _ _ _) (decide_eq_true (by omega)) rfl rfl ?_
    refine rTU ?_
    refine aX rfl (fun _ => au Tryz.underlying74 _ _ _ _) rfl rfl ?_
    refine aM true rfl rfl (fun _ => rfl) (fun _ => aA _ _ _) (decide_eq_true (by omega)) rfl rfl ?_
    refine rTU ?_
    refine bF rfl ?_
    refine aD ?_
    refine aj ?_
    refine am ?_
    refine aj ?_
    refine pTU ?_
    refine c8 k rfl rfl Tryz.underlying74 Tryz.sizeOf22 rfl (by omega) rfl rfl ?_
    refine bJ (v := .slice (g0 k).1 (g0 k).2.2.length (g0 k).2.1) rfl Tryz.isAgg22 (fun w' h => ((ac h).cell (block_lt_of_cell hc0)).trans hc0) rfl rfl ?_
    refine aX rfl (fun _ => au Tryz.underlying22 _ _ _ _) rfl rfl ?_
    refine aM true rfl rfl (fun _ => rfl) (fun _ => bv _ _ _) (decide_eq_true (by omega)) rfl rfl ?_
    refine rTU ?_
    refine aU rfl rfl rfl ?_
    refine aU rfl rfl rfl ?_
    refine aU rfl rfl rfl ?_
    refine aU rfl rfl rfl ?_
    refine aU rfl rfl rfl ?_
    refine aU rfl rfl rfl ?_
    refine rTU ?_
    refine bF rfl ?_
    refine pTU ?_
    refine cG ?_
    repeat (first | refine aQ ?_ | refine aP ?_ | refine bO ?_)
    exact aV rfl rfl (fun w hw => ⟨rfl, ac hw⟩)
  ·skip
   refine aj ?_
   refine pTU ?_
   refine aX rfl (fun _ => au Tryz.underlying74 _ _ _ _) rfl rfl ?_
   refine aM true rfl rfl (fun _ => rfl) (fun _ => aA _ _ _) (decide_eq_true (by omega)) rfl rfl ?_
   refine rTU ?_
   refine aX rfl (fun _ => au Tryz.underlying74 _ _ _ _) rfl rfl ?_
   refine aM false rfl rfl (fun _ => rfl) (fun _ => aA _ _ _) (decide_eq_false (by omega)) rfl rfl ?_
   refine rTU ?_
   refine bg rfl ?_
   refine bf ?_
   refine aj ?_
   refine pTU ?_
   refine bF rfl ?_
   refine bl (E := EE []) bi (by kernel_rfl) (by kernel_rfl) (by kernel_rfl) ?_
   refine rTU ?_
   refine az rfl rfl ent37 (lT (SM x y k)) rfl rfl ?_
   refine az rfl rfl ent31 (J1.fF J1.gGen (-(SM x y k))) rfl rfl ?_
   refine rTU ?_
   refine dw lx rfl rfl (by simp) (by simp) rfl rfl ?_
   refine eG 81 ((PRv (J1.cH J1.gGen (-(SM x y k)), J2.gGen)).map U64) hGF rfl (by simp) (by decide) (by decide) Tryz.underlying75 Tryz.sizeOf77 zv77 rfl rfl ?_
   intro b81
   refine el (s := 54) (nx := k) (ny := 1) (xs := (RW 54 (fun i => PRv (CF x y i)) k).map U64) (ys := (PRv (J1.cH J1.gGen (-(SM x y k)), J2.gGen)).map U64) 50 hGF rfl rfl Tryz.underlying75 Tryz.underlying75 tiP rfl (OwnW.of hs rfl) (by simp) (fun w' h => cx (n := 81) rfl w' h) (ak _) (by decide) (by omega) (by omega) rfl rfl (fun bA cA capA eA lA tA => ?_)
   have eC : (RW 54 (fun i => PRv (CR x y k i)) (k + 1)).map U64 = (RW 54 (fun i => PRv (CF x y i)) k).map U64 ++ (PRv (J1.cH J1.gGen (-(SM x y k)), J2.gGen)).map U64 := by rw [yP _ k (bV _), List.map_append, ko (s := 54) (g := fun i => PRv (CF x y i)) (n := k) (fun i hi => by rw [show CR x y k i = CF x y i from if_pos hi]), show CR x y k k = (J1.cH J1.gGen (-(SM x y k)), J2.gGen) from if_neg (Nat.lt_irrefl k)]
   refine rTU ?_
   refine av (E := EE []) ?_
   refine dX zv63 Tryz.underlying63 (iG Tryz.sizeOf25) rfl rfl ?_
   refine rTU ?_
   refine bl (E := EE []) bi (by kernel_rfl) (by kernel_rfl) (by kernel_rfl) ?_
   refine rTU ?_
   refine bz rfl rfl ent38 (fun w' hC hG => gB (f := CR x y k) (k := k + 1) hC hG (.inr ⟨bA, cA, rfl, rfl, eA, by omega, by simp; omega, by rw [eC]; exact tA⟩) (by omega) (wF x y k)) rfl rfl ?_
   refine rTU ?_
   refine lc ent39 (qz0) ?_
   refine aM true rfl rfl (fun _ => rfl) (fun w => df 4 Tryz.underlying4 _ _ w) (by rw [uI]; exact beq_self_eq_true _) rfl rfl ?_
   refine rTU ?_
   refine cG ?_
   repeat (first | refine aQ ?_ | refine aP ?_ | refine bO ?_)
   exact aV rfl rfl (fun w hw => ⟨rfl, ac hw⟩)
 ·skip
  refine aj ?_
  refine pTU ?_
  refine aX rfl (fun _ => au Tryz.underlying74 _ _ _ _) rfl rfl ?_
  refine aM false rfl rfl (fun _ => rfl) (fun _ => aA _ _ _) (decide_eq_false (by omega)) rfl rfl ?_
  refine rTU ?_
  refine aU rfl rfl rfl ?_
  refine aU rfl rfl rfl ?_
  refine aU rfl rfl rfl ?_
  refine aU rfl rfl rfl ?_
  refine rTU ?_
  refine bg rfl ?_
  refine bf ?_
  refine aj ?_
  refine pTU ?_
  refine bF rfl ?_
  refine bl (E := EE []) bi (by kernel_rfl) (by kernel_rfl) (by kernel_rfl) ?_
  refine rTU ?_
  refine az rfl rfl ent37 (lT (SM x y k)) rfl rfl ?_
  refine az rfl rfl ent31 (J1.fF J1.gGen (-(SM x y k))) rfl rfl ?_
  refine rTU ?_
  refine dw lx rfl rfl (by simp) (by simp) rfl rfl ?_
  refine eG 81 ((PRv (J1.cH J1.gGen (-(SM x y k)), J2.gGen)).map U64) hGF rfl (by simp) (by decide) (by decide) Tryz.underlying75 Tryz.sizeOf77 zv77 rfl rfl ?_
  intro b81
  refine el (s := 54) (nx := k) (ny := 1) (xs := (RW 54 (fun i => PRv (CF x y i)) k).map U64) (ys := (PRv (J1.cH J1.gGen (-(SM x y k)), J2.gGen)).map U64) 50 hGF rfl rfl Tryz.underlying75 Tryz.underlying75 tiP rfl (OwnW.of hs rfl) (by simp) (fun w' h => cx (n := 81) rfl w' h) (ak _) (by decide) (by omega) (by omega) rfl rfl (fun bA cA capA eA lA tA => ?_)
  have eC : (RW 54 (fun i => PRv (CR x y k i)) (k + 1)).map U64 = (RW 54 (fun i => PRv (CF x y i)) k).map U64 ++ (PRv (J1.cH J1.gGen (-(SM x y k)), J2.gGen)).map U64 := by rw [yP _ k (bV _), List.map_append, ko (s := 54) (g := fun i => PRv (CF x y i)) (n := k) (fun i hi => by rw [show CR x y k i = CF x y i from if_pos hi]), show CR x y k k = (J1.cH J1.gGen (-(SM x y k)), J2.gGen) from if_neg (Nat.lt_irrefl k)]
  refine rTU ?_
  refine av (E := EE []) ?_
  refine dX zv63 Tryz.underlying63 (iG Tryz.sizeOf25) rfl rfl ?_
  refine rTU ?_
  refine bl (E := EE []) bi (by kernel_rfl) (by kernel_rfl) (by kernel_rfl) ?_
  refine rTU ?_
  refine bz rfl rfl ent38 (fun w' hC hG => gB (f := CR x y k) (k := k + 1) hC hG (.inr ⟨bA, cA, rfl, rfl, eA, by omega, by simp; omega, by rw [eC]; exact tA⟩) (by omega) (wF x y k)) rfl rfl ?_
  refine rTU ?_
  refine lc ent39 (qz0) ?_
  refine aM true rfl rfl (fun _ => rfl) (fun w => df 4 Tryz.underlying4 _ _ w) (by rw [uI]; exact beq_self_eq_true _) rfl rfl ?_
  refine rTU ?_
  refine cG ?_
  repeat (first | refine aQ ?_ | refine aP ?_ | refine bO ?_)
  exact aV rfl rfl (fun w hw => ⟨rfl, ac hw⟩)
theorem pz (e0 : Option Addr) (n0 cap0 : Nat) (e1 : Option Addr) (n1 cap1 : Nat) (rt : Bool) (g0 g1 : BSs) (w : World) (hw : Gt w) (h0 : eX w e0 n0 g0) (h1 : eX w e1 n1 g1) : Calls Tryz.prog 6 [.slice e0 n0 cap0, .slice e1 n1 cap1, .bool rt].toArray w (fun r w' => r = .returned (.bool true) ∧ Grow w w') := by
 by_cases k0 : n0 ≤ 4
 ·by_cases k1 : n1 ≤ 4
  ·have hx : ∀ (g : BSs) (n : Nat) (e : Option Addr), eX w e n g → ∀ k, k < n → (g k).2.2.length ≤ 32 → ∀ w', Gt w' → BytesAt w' (g k).1 (g k).2.2 → Calls Tryz.prog 27 [.slice (g k).1 (g k).2.2.length (g k).2.1].toArray w' (fun r w'' => r = .returned (RV (QB (g k).2.2)) ∧ Grow w' w'') := fun g n e h k hk hs w' hG hb => ov (g k).1 (g k).2.1 (g k).2.2 (by omega) (h k hk).2.1 w' hG hb
   cases rt with
   | true => exact FY e0 n0 cap0 e1 n1 cap1 g0 g1 (fun k => QB (g0 k).2.2) (fun k => QB (g1 k).2.2) k0 k1 (hx g0 n0 e0 h0) (hx g1 n1 e1 h1) w hw h0 h1
   | false => exact Gk e0 n0 cap0 e1 n1 cap1 g0 g1 (fun k => QB (g0 k).2.2) (fun k => QB (g1 k).2.2) k0 k1 (hx g0 n0 e0 h0) (hx g1 n1 e1 h1) w hw h0 h1
  ·exact Cs e0 n0 cap0 e1 n1 cap1 k0 k1 rt w hw
 ·exact D2 e0 n0 cap0 e1 n1 cap1 k0 rt w hw
end Q6
end Go.Proofs.YtpnpiblphnpfiaaGreatDoor
