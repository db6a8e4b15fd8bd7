/-
 The law PairingMoves.
-/
import Derived.Test.YtpnpiblphnpfiaaGreatDoorTV
import Derived.Test.YtpnpiblphnpfiaaGreatDoorX5
namespace Go.Proofs.YtpnpiblphnpfiaaGreatDoor
open Go.RowKit
set_option maxRecDepth 100000
set_option maxHeartbeats 1000000
attribute [local simp] aN aZ aI aF aw aX aC aB aD PLl bX bZ N1l ca bU cb aP a5 aJ aU aV J1.aY J2.aY Q6.bM Q6.bV
theorem rTX {Q P : Prop} (k : Q) (h : Q → P := by intro k; (refine LY.run ?_); (repeat (first | refine bK rfl rfl rfl ?_ | refine bg rfl rfl rfl ?_ | ((refine CK rfl rfl ?_ rfl rfl ?_); (· simp)) | ((refine u4 rfl rfl ?_ rfl rfl ?_); (· simp)) | ((refine Gv hGF rfl rfl rfl ?_ ?_ (ak _) rfl ?_); (· simp); (· simp)) | ((refine wH hGF rfl rfl rfl ?_ ?_ (ak _) rfl ?_); (· simp); (· simp)) | refine bQ (f := 11) rfl rfl ent11 (J1.nB) rfl rfl ?_ | refine bQ (f := 10) rfl rfl ent10 xV rfl rfl ?_ | refine bQ (f := 13) rfl rfl ent13 (J2.nB) rfl rfl ?_ | refine bQ (f := 42) rfl rfl ent42 (J1.Ey J1.gGen) rfl rfl ?_ | refine fN rfl rfl rfl rfl rfl ?_)); (first | refine ci ?_ | refine LY.mk ?_); exact k) : P := h k
theorem pTX {Q P : Prop} (k : Q) (h : Q → P := by intro k; (refine xp ?_); (refine rTX ?_); exact k) : P := h k
attribute [local simp] e8 fy

namespace Q6
theorem Cf (e0 : Option Addr) (cap0 : Nat) (bs0 : List (BitVec 8)) (e1 : Option Addr) (cap1 : Nat) (bs1 : List (BitVec 8)) (e2 : Option Addr) (cap2 : Nat) (bs2 : List (BitVec 8))  (h0 : ¬ bs0.length ≤ 64) (w : World) (hw : Gt w)  : Calls Tryz.prog 9 [.slice e0 bs0.length cap0, .slice e1 bs1.length cap1, .slice e2 bs2.length cap2].toArray w (fun r w' => r = .returned (.bool true) ∧ Grow w w') := by
 have hGF : BOk Gt (pl w) := gt_low.plain hw
 refine aE (G := Gt) Tryz.func9 rfl rfl (Hp (pl w) []) (aO (pl w) trivial ai) (ap hGF) ?_
 refine pTX ?_
 refine am ?_
 refine pTX ?_
 refine bC rfl (fun _ => bi _) rfl rfl ?_
 refine aa ?_
 refine bf rfl ?_
 refine aA ?_
 refine am ?_
 refine pTX ?_
 refine bv rfl (fun _ => aK Tryz.underlying22 _ _ _ _) rfl rfl ?_
 refine bD true rfl rfl (fun _ => rfl) (fun _ => bE _ _ _) (decide_eq_true (by omega)) rfl rfl ?_
 refine rTX ?_
 refine aH rfl rfl rfl ?_
 refine aH rfl rfl rfl ?_
 refine aH rfl rfl rfl ?_
 refine rTX ?_
 refine aH rfl rfl rfl ?_
 refine aH rfl rfl rfl ?_
 refine aH rfl rfl rfl ?_
 refine rTX ?_
 refine cg rfl ?_
 refine pTX ?_
 refine rt ?_
 exact a6 rfl rfl (fun w hw => ⟨rfl, ah hw⟩)
theorem D5 (e0 : Option Addr) (cap0 : Nat) (bs0 : List (BitVec 8)) (e1 : Option Addr) (cap1 : Nat) (bs1 : List (BitVec 8)) (e2 : Option Addr) (cap2 : Nat) (bs2 : List (BitVec 8)) (h0 : bs0.length ≤ 64) (h1 : ¬ bs1.length ≤ 64) (w : World) (hw : Gt w)  : Calls Tryz.prog 9 [.slice e0 bs0.length cap0, .slice e1 bs1.length cap1, .slice e2 bs2.length cap2].toArray w (fun r w' => r = .returned (.bool true) ∧ Grow w w') := by
 have hGF : BOk Gt (pl w) := gt_low.plain hw
 refine aE (G := Gt) Tryz.func9 rfl rfl (Hp (pl w) []) (aO (pl w) trivial ai) (ap hGF) ?_
 refine pTX ?_
 refine am ?_
 refine pTX ?_
 refine bC rfl (fun _ => bi _) rfl rfl ?_
 refine aa ?_
 refine bf rfl ?_
 refine aA ?_
 refine am ?_
 refine pTX ?_
 refine bv rfl (fun _ => aK Tryz.underlying22 _ _ _ _) rfl rfl ?_
 refine bD false rfl rfl (fun _ => rfl) (fun _ => bE _ _ _) (decide_eq_false (by omega)) rfl rfl ?_
 refine rTX ?_
 refine bv rfl (fun _ => aK Tryz.underlying22 _ _ _ _) rfl rfl ?_
 refine bD true rfl rfl (fun _ => rfl) (fun _ => bE _ _ _) (decide_eq_true (by omega)) rfl rfl ?_
 refine rTX ?_
 refine aH rfl rfl rfl ?_
 refine aH rfl rfl rfl ?_
 refine aH rfl rfl rfl ?_
 refine rTX ?_
 refine cg rfl ?_
 refine pTX ?_
 refine rt ?_
 exact a6 rfl rfl (fun w hw => ⟨rfl, ah hw⟩)
theorem DK (e0 : Option Addr) (cap0 : Nat) (bs0 : List (BitVec 8)) (e1 : Option Addr) (cap1 : Nat) (bs1 : List (BitVec 8)) (e2 : Option Addr) (cap2 : Nat) (bs2 : List (BitVec 8)) (h0 : bs0.length ≤ 64) (h1 : bs1.length ≤ 64) (h2 : ¬ bs2.length ≤ 8) (w : World) (hw : Gt w)  : Calls Tryz.prog 9 [.slice e0 bs0.length cap0, .slice e1 bs1.length cap1, .slice e2 bs2.length cap2].toArray w (fun r w' => r = .returned (.bool true) ∧ Grow w w') := by
 have hGF : BOk Gt (pl w) := gt_low.plain hw
 refine aE (G := Gt) Tryz.func9 rfl rfl (Hp (pl w) []) (aO (pl w) trivial ai) (ap hGF) ?_
 refine pTX ?_
 refine am ?_
 refine pTX ?_
 refine bC rfl (fun _ => bi _) rfl rfl ?_
 refine aa ?_
 refine bf rfl ?_
 refine aA ?_
 refine am ?_
 refine pTX ?_
 refine bv rfl (fun _ => aK Tryz.underlying22 _ _ _ _) rfl rfl ?_
 refine bD false rfl rfl (fun _ => rfl) (fun _ => bE _ _ _) (decide_eq_false (by omega)) rfl rfl ?_
 refine rTX ?_
 refine bv rfl (fun _ => aK Tryz.underlying22 _ _ _ _) rfl rfl ?_
 refine bD false rfl rfl (fun _ => rfl) (fun _ => bE _ _ _) (decide_eq_false (by omega)) rfl rfl ?_
 refine rTX ?_
 refine bv rfl (fun _ => aK Tryz.underlying22 _ _ _ _) rfl rfl ?_
 refine bD true rfl rfl (fun _ => rfl) (fun _ => bE _ _ _) (decide_eq_true (by omega)) rfl rfl ?_
 refine rTX ?_
 refine cg rfl ?_
 refine pTX ?_
 refine rt ?_
 exact a6 rfl rfl (fun w hw => ⟨rfl, ah hw⟩)
theorem Bu (e0 : Option Addr) (cap0 : Nat) (bs0 : List (BitVec 8)) (e1 : Option Addr) (cap1 : Nat) (bs1 : List (BitVec 8)) (e2 : Option Addr) (cap2 : Nat) (bs2 : List (BitVec 8)) (h0 : bs0.length ≤ 64) (h1 : bs1.length ≤ 64) (h2 : bs2.length ≤ 8) (hc0 : bs0.length ≤ cap0) (hc1 : bs1.length ≤ cap1) (q : J2.GP) (hM2 : ∀ w', Gt w' → BytesAt w' e2 bs2 → Calls Tryz.prog 14 [J2.PtV J2.gGen, .slice e2 bs2.length cap2].toArray w' (fun y w'' => y = .returned (J2.PtV q) ∧ Grow w' w'')) (hE : (QB bs0) = (QB bs1)) (hK : ∀ (d : Nat) (w' : World), Gt w' → w'.rangeAt d 0 ((RW 54 (fun i => PRv (f2p (J1.cV J1.gGen (QB bs0), q) (J1.i9 J1.gGen, J2.cV q (QB bs1)) i)) 2).map U64) → Calls Tryz.prog 38 [.slice (some ⟨d, 0, none⟩) 2 2].toArray w' (fun y w'' => y = .returned (.bool true) ∧ Grow w' w'')) (w : World) (hw : Gt w) (hb0 : BytesAt w e0 bs0) (hb1 : BytesAt w e1 bs1) (hb2 : BytesAt w e2 bs2) : Calls Tryz.prog 9 [.slice e0 bs0.length cap0, .slice e1 bs1.length cap1, .slice e2 bs2.length cap2].toArray w (fun r w' => r = .returned (.bool true) ∧ Grow w w') := by
 have hGF : BOk Gt (pl w) := gt_low.plain hw
 refine aE (G := Gt) Tryz.func9 rfl rfl (Hp (pl w) []) (aO (pl w) trivial ai) (ap hGF) ?_
 refine pTX ?_
 refine am ?_
 refine pTX ?_
 refine bC rfl (fun _ => bi _) rfl rfl ?_
 refine aa ?_
 refine bf rfl ?_
 refine aA ?_
 refine am ?_
 refine pTX ?_
 refine bv rfl (fun _ => aK Tryz.underlying22 _ _ _ _) rfl rfl ?_
 refine bD false rfl rfl (fun _ => rfl) (fun _ => bE _ _ _) (decide_eq_false (by omega)) rfl rfl ?_
 refine rTX ?_
 refine bv rfl (fun _ => aK Tryz.underlying22 _ _ _ _) rfl rfl ?_
 refine bD false rfl rfl (fun _ => rfl) (fun _ => bE _ _ _) (decide_eq_false (by omega)) rfl rfl ?_
 refine rTX ?_
 refine bv rfl (fun _ => aK Tryz.underlying22 _ _ _ _) rfl rfl ?_
 refine bD false rfl rfl (fun _ => rfl) (fun _ => bE _ _ _) (decide_eq_false (by omega)) rfl rfl ?_
 refine rTX ?_
 refine bf rfl ?_
 refine aA ?_
 refine pTX ?_
 refine bk rfl rfl ent27 (fun w' hC hG => dh e0 cap0 bs0 (by omega) hc0 w' hG (hb0.grow (ah hC))) rfl rfl ?_
 refine rTX ?_
 refine bk rfl rfl ent27 (fun w' hC hG => dh e1 cap1 bs1 (by omega) hc1 w' hG (hb1.grow (ah hC))) rfl rfl ?_
 refine la zv63 fun b7 => ?_
 refine la zv63 fun b8 => ?_
 refine rTX ?_
 refine pTX ?_
 refine bk rfl rfl ent14 (fun w' hC hG => hM2 w' hG (hb2.grow (ah hC))) rfl rfl ?_
 refine la J2.zv35 fun b9 => ?_
 refine rTX ?_
 refine bw (E := EE []) bq (by kernel_rfl) (by kernel_rfl) (by kernel_rfl) ?_
 refine rTX ?_
 refine aG rfl rfl ent31 (J1.fG J1.gGen (QB bs0)) rfl rfl ?_
 refine rTX ?_
 refine dd i2 rfl rfl (by simp) (by simp) rfl rfl ?_
 refine rTX ?_
 refine aG rfl rfl ent32 (J2.fG q (QB bs1)) rfl rfl ?_
 refine dd i2 rfl rfl (by simp) (by simp) rfl rfl ?_
 refine kl (s := 54) 44 (fun i => PRv (f2p (J1.cV J1.gGen (QB bs0), q) (J1.i9 J1.gGen, J2.cV q (QB bs1)) i)) (List.replicate 54 (0#64)) hGF rfl rfl rfl (fun i _ => bV _) (by decide) (by decide) Tryz.underlying75 Tryz.sizeOf77 (by simp) zv77 rfl rfl ?_
 intro b44
 refine bk rfl rfl ent38 (fun w' hC hG => hK b44 w' hG (cC (n := 44) rfl w' hC)) rfl rfl ?_
 refine rTX ?_
 refine pTX ?_
 refine cF true rfl rfl ent44 (f7 (QB bs0) (QB bs1)) (decide_eq_true hE) rfl rfl ?_
 refine rTX ?_
 refine aH rfl rfl rfl ?_
 refine aH rfl rfl rfl ?_
 refine rTX ?_
 refine bD true rfl rfl (fun _ => rfl) (fun w => dY 4 Tryz.underlying4 _ _ w) (rfl) rfl rfl ?_
 refine rTX ?_
 refine rt ?_
 exact a6 rfl rfl (fun w hw => ⟨rfl, ah hw⟩)
theorem vI (e0 : Option Addr) (cap0 : Nat) (bs0 : List (BitVec 8)) (e1 : Option Addr) (cap1 : Nat) (bs1 : List (BitVec 8)) (e2 : Option Addr) (cap2 : Nat) (bs2 : List (BitVec 8)) (h0 : bs0.length ≤ 64) (h1 : bs1.length ≤ 64) (h2 : bs2.length ≤ 8) (hc0 : bs0.length ≤ cap0) (hc1 : bs1.length ≤ cap1) (q : J2.GP) (hM2 : ∀ w', Gt w' → BytesAt w' e2 bs2 → Calls Tryz.prog 14 [J2.PtV J2.gGen, .slice e2 bs2.length cap2].toArray w' (fun y w'' => y = .returned (J2.PtV q) ∧ Grow w' w'')) (hE : ¬ (QB bs0) = (QB bs1)) (hI : q.P = none) (hK : ∀ (d : Nat) (w' : World), Gt w' → w'.rangeAt d 0 ((RW 54 (fun i => PRv (f2p (J1.cV J1.gGen (QB bs0), q) (J1.i9 J1.gGen, J2.cV q (QB bs1)) i)) 2).map U64) → Calls Tryz.prog 38 [.slice (some ⟨d, 0, none⟩) 2 2].toArray w' (fun y w'' => y = .returned (.bool true) ∧ Grow w' w'')) (w : World) (hw : Gt w) (hb0 : BytesAt w e0 bs0) (hb1 : BytesAt w e1 bs1) (hb2 : BytesAt w e2 bs2) : Calls Tryz.prog 9 [.slice e0 bs0.length cap0, .slice e1 bs1.length cap1, .slice e2 bs2.length cap2].toArray w (fun r w' => r = .returned (.bool true) ∧ Grow w w') := by
 have hGF : BOk Gt (pl w) := gt_low.plain hw
 refine aE (G := Gt) Tryz.func9 rfl rfl (Hp (pl w) []) (aO (pl w) trivial ai) (ap hGF) ?_
 refine pTX ?_
 refine am ?_
 refine pTX ?_
 refine bC rfl (fun _ => bi _) rfl rfl ?_
 refine aa ?_
 refine bf rfl ?_
 refine aA ?_
 refine am ?_
 refine pTX ?_
 refine bv rfl (fun _ => aK Tryz.underlying22 _ _ _ _) rfl rfl ?_
 refine bD false rfl rfl (fun _ => rfl) (fun _ => bE _ _ _) (decide_eq_false (by omega)) rfl rfl ?_
 refine rTX ?_
 refine bv rfl (fun _ => aK Tryz.underlying22 _ _ _ _) rfl rfl ?_
 refine bD false rfl rfl (fun _ => rfl) (fun _ => bE _ _ _) (decide_eq_false (by omega)) rfl rfl ?_
 refine rTX ?_
 refine bv rfl (fun _ => aK Tryz.underlying22 _ _ _ _) rfl rfl ?_
 refine bD false rfl rfl (fun _ => rfl) (fun _ => bE _ _ _) (decide_eq_false (by omega)) rfl rfl ?_
 refine rTX ?_
 refine bf rfl ?_
 refine aA ?_
 refine pTX ?_
 refine bk rfl rfl ent27 (fun w' hC hG => dh e0 cap0 bs0 (by omega) hc0 w' hG (hb0.grow (ah hC))) rfl rfl ?_
 refine rTX ?_
 refine bk rfl rfl ent27 (fun w' hC hG => dh e1 cap1 bs1 (by omega) hc1 w' hG (hb1.grow (ah hC))) rfl rfl ?_
 refine la zv63 fun b7 => ?_
 refine la zv63 fun b8 => ?_
 refine rTX ?_
 refine pTX ?_
 refine bk rfl rfl ent14 (fun w' hC hG => hM2 w' hG (hb2.grow (ah hC))) rfl rfl ?_
 refine la J2.zv35 fun b9 => ?_
 refine rTX ?_
 refine bw (E := EE []) bq (by kernel_rfl) (by kernel_rfl) (by kernel_rfl) ?_
 refine rTX ?_
 refine aG rfl rfl ent31 (J1.fG J1.gGen (QB bs0)) rfl rfl ?_
 refine rTX ?_
 refine dd i2 rfl rfl (by simp) (by simp) rfl rfl ?_
 refine rTX ?_
 refine aG rfl rfl ent32 (J2.fG q (QB bs1)) rfl rfl ?_
 refine dd i2 rfl rfl (by simp) (by simp) rfl rfl ?_
 refine kl (s := 54) 44 (fun i => PRv (f2p (J1.cV J1.gGen (QB bs0), q) (J1.i9 J1.gGen, J2.cV q (QB bs1)) i)) (List.replicate 54 (0#64)) hGF rfl rfl rfl (fun i _ => bV _) (by decide) (by decide) Tryz.underlying75 Tryz.sizeOf77 (by simp) zv77 rfl rfl ?_
 intro b44
 refine bk rfl rfl ent38 (fun w' hC hG => hK b44 w' hG (cC (n := 44) rfl w' hC)) rfl rfl ?_
 refine rTX ?_
 refine pTX ?_
 refine cF false rfl rfl ent44 (f7 (QB bs0) (QB bs1)) (decide_eq_false hE) rfl rfl ?_
 refine rTX ?_
 refine cF true rfl rfl ent45 (J2.mo q) (decide_eq_true hI) rfl rfl ?_
 refine rTX ?_
 refine bD true rfl rfl (fun _ => rfl) (fun w => dY 4 Tryz.underlying4 _ _ w) (rfl) rfl rfl ?_
 refine rTX ?_
 refine rt ?_
 exact a6 rfl rfl (fun w hw => ⟨rfl, ah hw⟩)
theorem yj (e0 : Option Addr) (cap0 : Nat) (bs0 : List (BitVec 8)) (e1 : Option Addr) (cap1 : Nat) (bs1 : List (BitVec 8)) (e2 : Option Addr) (cap2 : Nat) (bs2 : List (BitVec 8)) (h0 : bs0.length ≤ 64) (h1 : bs1.length ≤ 64) (h2 : bs2.length ≤ 8) (hc0 : bs0.length ≤ cap0) (hc1 : bs1.length ≤ cap1) (q : J2.GP) (hM2 : ∀ w', Gt w' → BytesAt w' e2 bs2 → Calls Tryz.prog 14 [J2.PtV J2.gGen, .slice e2 bs2.length cap2].toArray w' (fun y w'' => y = .returned (J2.PtV q) ∧ Grow w' w'')) (hE : ¬ (QB bs0) = (QB bs1)) (hI : ¬ q.P = none) (hK : ∀ (d : Nat) (w' : World), Gt w' → w'.rangeAt d 0 ((RW 54 (fun i => PRv (f2p (J1.cV J1.gGen (QB bs0), q) (J1.i9 J1.gGen, J2.cV q (QB bs1)) i)) 2).map U64) → Calls Tryz.prog 38 [.slice (some ⟨d, 0, none⟩) 2 2].toArray w' (fun y w'' => y = .returned (.bool false) ∧ Grow w' w'')) (w : World) (hw : Gt w) (hb0 : BytesAt w e0 bs0) (hb1 : BytesAt w e1 bs1) (hb2 : BytesAt w e2 bs2) : Calls Tryz.prog 9 [.slice e0 bs0.length cap0, .slice e1 bs1.length cap1, .slice e2 bs2.length cap2].toArray w (fun r w' => r = .returned (.bool true) ∧ Grow w w') := by
 have hGF : BOk Gt (pl w) := gt_low.plain hw
 refine aE (G := Gt) Tryz.func9 rfl rfl (Hp (pl w) []) (aO (pl w) trivial ai) (ap hGF) ?_
 refine pTX ?_
 refine am ?_
 refine pTX ?_
 refine bC rfl (fun _ => bi _) rfl rfl ?_
 refine aa ?_
 refine bf rfl ?_
 refine aA ?_
 refine am ?_
 refine pTX ?_
 refine bv rfl (fun _ => aK Tryz.underlying22 _ _ _ _) rfl rfl ?_
 refine bD false rfl rfl (fun _ => rfl) (fun _ => bE _ _ _) (decide_eq_false (by omega)) rfl rfl ?_
 refine rTX ?_
 refine bv rfl (fun _ => aK Tryz.underlying22 _ _ _ _) rfl rfl ?_
 refine bD false rfl rfl (fun _ => rfl) (fun _ => bE _ _ _) (decide_eq_false (by omega)) rfl rfl ?_
 refine rTX ?_
 refine bv rfl (fun _ => aK Tryz.underlying22 _ _ _ _) rfl rfl ?_
 refine bD false rfl rfl (fun _ => rfl) (fun _ => bE _ _ _) (decide_eq_false (by omega)) rfl rfl ?_
 refine rTX ?_
 refine bf rfl ?_
 refine aA ?_
 refine pTX ?_
 refine bk rfl rfl ent27 (fun w' hC hG => dh e0 cap0 bs0 (by omega) hc0 w' hG (hb0.grow (ah hC))) rfl rfl ?_
 refine rTX ?_
 refine bk rfl rfl ent27 (fun w' hC hG => dh e1 cap1 bs1 (by omega) hc1 w' hG (hb1.grow (ah hC))) rfl rfl ?_
 refine la zv63 fun b7 => ?_
 refine la zv63 fun b8 => ?_
 refine rTX ?_
 refine pTX ?_
 refine bk rfl rfl ent14 (fun w' hC hG => hM2 w' hG (hb2.grow (ah hC))) rfl rfl ?_
 refine la J2.zv35 fun b9 => ?_
 refine rTX ?_
 refine bw (E := EE []) bq (by kernel_rfl) (by kernel_rfl) (by kernel_rfl) ?_
 refine rTX ?_
 refine aG rfl rfl ent31 (J1.fG J1.gGen (QB bs0)) rfl rfl ?_
 refine rTX ?_
 refine dd i2 rfl rfl (by simp) (by simp) rfl rfl ?_
 refine rTX ?_
 refine aG rfl rfl ent32 (J2.fG q (QB bs1)) rfl rfl ?_
 refine dd i2 rfl rfl (by simp) (by simp) rfl rfl ?_
 refine kl (s := 54) 44 (fun i => PRv (f2p (J1.cV J1.gGen (QB bs0), q) (J1.i9 J1.gGen, J2.cV q (QB bs1)) i)) (List.replicate 54 (0#64)) hGF rfl rfl rfl (fun i _ => bV _) (by decide) (by decide) Tryz.underlying75 Tryz.sizeOf77 (by simp) zv77 rfl rfl ?_
 intro b44
 refine bk rfl rfl ent38 (fun w' hC hG => hK b44 w' hG (cC (n := 44) rfl w' hC)) rfl rfl ?_
 refine rTX ?_
 refine pTX ?_
 refine cF false rfl rfl ent44 (f7 (QB bs0) (QB bs1)) (decide_eq_false hE) rfl rfl ?_
 refine rTX ?_
 refine cF false rfl rfl ent45 (J2.mo q) (decide_eq_false hI) rfl rfl ?_
 refine rTX ?_
 refine bD true rfl rfl (fun _ => rfl) (fun w => dY 4 Tryz.underlying4 _ _ w) (rfl) rfl rfl ?_
 refine rTX ?_
 refine rt ?_
 exact a6 rfl rfl (fun w hw => ⟨rfl, ah hw⟩)
theorem ya (e0 : Option Addr) (cap0 : Nat) (bs0 : List (BitVec 8)) (e1 : Option Addr) (cap1 : Nat) (bs1 : List (BitVec 8)) (e2 : Option Addr) (cap2 : Nat) (bs2 : List (BitVec 8)) (hc0 : bs0.length ≤ cap0) (hc1 : bs1.length ≤ cap1) (w : World) (hw : Gt w) (hb0 : BytesAt w e0 bs0) (hb1 : BytesAt w e1 bs1) (hb2 : BytesAt w e2 bs2) : Calls Tryz.prog 9 [.slice e0 bs0.length cap0, .slice e1 bs1.length cap1, .slice e2 bs2.length cap2].toArray w (fun r w' => r = .returned (.bool true) ∧ Grow w w') := by
 by_cases h0 : bs0.length ≤ 64
 ·by_cases h1 : bs1.length ≤ 64
  ·by_cases h2 : bs2.length ≤ 8
   ·have m2 := fun w' hG hB => J2.EZ J2.gGen e2 cap2 bs2 (by omega) w' hG hB
    have hq : (J2.xW J2.gGen bs2).P = E2w.times (some G2p) (BN bs2 bs2.length) := rfl
    revert m2 hq
    generalize J2.xW J2.gGen bs2 = q
    intro m2 hq
    have qr : E2w.times q.P ORD = none := by rw [hq]; exact E2w.times_ord eY dN _
    have key := FR (QB bs0) (QB bs1) hq
    have hK := fun (d : Nat) (w' : World) (hG : Gt w') hr => v5 2 (f2p (J1.cV J1.gGen (QB bs0), q) (J1.i9 J1.gGen, J2.cV q (QB bs1))) d 2 (by decide) (fun i _ => xL (a := (J1.cV J1.gGen (QB bs0), q)) (b := (J1.i9 J1.gGen, J2.cV q (QB bs1))) qr (E2w.times_ord q.on qr _) i) w' hG hr
    rw [Gh, show ((J1.cV J1.gGen (QB bs0), q) : J1.GP × J2.GP).1.P = E1.times (some G1p) (QB bs0).val from rfl, show ((J1.i9 J1.gGen, J2.cV q (QB bs1)) : J1.GP × J2.GP).1.P = E1.ne (some G1p) from rfl, show ((J1.i9 J1.gGen, J2.cV q (QB bs1)) : J1.GP × J2.GP).2.P = E2w.times q.P (QB bs1).val from rfl, decide_eq_decide.2 key] at hK
    by_cases hE : (QB bs0) = (QB bs1)
    ·rw [decide_eq_true (Or.inl hE)] at hK
     exact Bu e0 cap0 bs0 e1 cap1 bs1 e2 cap2 bs2 h0 h1 h2 hc0 hc1 q m2 hE hK w hw hb0 hb1 hb2
    ·by_cases hI : q.P = none
     ·rw [decide_eq_true (Or.inr hI)] at hK
      exact vI e0 cap0 bs0 e1 cap1 bs1 e2 cap2 bs2 h0 h1 h2 hc0 hc1 q m2 hE hI hK w hw hb0 hb1 hb2
     ·rw [decide_eq_false (fun h => h.elim hE hI)] at hK
      exact yj e0 cap0 bs0 e1 cap1 bs1 e2 cap2 bs2 h0 h1 h2 hc0 hc1 q m2 hE hI hK w hw hb0 hb1 hb2
   ·exact DK e0 cap0 bs0 e1 cap1 bs1 e2 cap2 bs2 h0 h1 h2 w hw
  ·exact D5 e0 cap0 bs0 e1 cap1 bs1 e2 cap2 bs2 h0 h1 w hw
 ·exact Cf e0 cap0 bs0 e1 cap1 bs1 e2 cap2 bs2 h0 w hw
end Q6
end Go.Proofs.YtpnpiblphnpfiaaGreatDoor
