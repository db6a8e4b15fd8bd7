/-
 The walks of the bits of numbers.
 The walks of package fr: elements of r.
-/
import Derived.Test.YtpnpiblphnpfiaaGreatDoorX6
import Derived.Test.YtpnpiblphnpfiaaGreatDoorX5
import Derived.Test.YtpnpiblphnpfiaaGreatDoorXD
import Derived.Test.YtpnpiblphnpfiaaGreatDoorX4
set_option maxRecDepth 100000
set_option maxHeartbeats 1000000
namespace Go.Proofs.YtpnpiblphnpfiaaGreatDoor
section
open Go.RowKit
end
section
open Go.RowKit
attribute [local simp] h7 aF aA aL aM aK fJ MLl Bq IVRl zM bd
theorem rF3 {Q P : Prop} (k : Q) (h : Q → P := by intro k; (refine LY.run ?_); (repeat (first | refine bC rfl rfl rfl ?_ | refine a7 rfl rfl rfl ?_ | ((refine zt rfl rfl ?_ rfl rfl rfl rfl ?_); (· simp)) | ((refine DK rfl rfl ?_ rfl rfl ?_); (· simp)) | ((refine HY rfl rfl ?_ rfl rfl ?_); (· simp)) | ((refine Ge hGF rfl rfl rfl ?_ ?_ (ak _) rfl ?_); (· simp); (· simp)) | ((refine EY hGF rfl rfl rfl ?_ ?_ (ak _) rfl ?_); (· simp); (· simp)) | ((refine sC hGF rfl rfl rfl ?_ ?_ (eH _) rfl ?_); (· simp); (· simp)) | ((refine G1 hGF rfl rfl rfl ?_ ?_ (eH _) rfl ?_); (· simp); (· simp)) | refine ec rfl rfl rfl rfl ?_)); (first | refine bO ?_ | refine LY.mk ?_); exact k) : P := h k
theorem pF3 {Q P : Prop} (k : Q) (h : Q → P := by intro k; (refine xp ?_); (refine rF3 ?_); exact k) : P := h k
abbrev RV (x : Zr) : Value := .agg ((nr x).map U64).toArray
theorem zv63 (w : World) : (zeroValue 63).run Tryz.prog w = .ok (.agg ((List.replicate 6 (0#64)).map U64).toArray) w := (Tryz.zeroValue63 w).trans (by rfl)
theorem zv65 (w : World) : (zeroValue 65).run Tryz.prog w = .ok (.agg ((List.replicate 32 (0#8)).map U8).toArray) w := (Tryz.zeroValue65 w).trans (by rfl)
theorem tN (x y : Zr) : decide (nr x = nr y) = decide (x = y) := decide_eq_decide.2 CI
theorem CJ {x y : BitVec 64} (h : (x == y) = true) : x = y := beq_iff_eq.1 h
theorem Ex {x y : BitVec 64} (h : (x == y) = false) : ¬ x = y := beq_eq_false_iff_ne.1 h
theorem ent27 : ae Tryz.prog 27 := fun _ _ => by kernel_rfl
theorem ent29 : ae Tryz.prog 29 := fun _ _ => by kernel_rfl
theorem ent39 : ae Tryz.prog 39 := fun _ _ => by kernel_rfl
theorem ent78 : ae Tryz.prog 78 := fun _ _ => by kernel_rfl
theorem ent79 : ae Tryz.prog 79 := fun _ _ => by kernel_rfl
theorem ent36 : ae Tryz.prog 36 := fun _ _ => by kernel_rfl
theorem qX (a b : List (BitVec 64)) (ha : a.length = 6) (hb : b.length = 6) : Pure Tryz.prog Gt 79 [NV a, NV b] (NV (eo (eo a b ML) LIFT ML)) := by
 refine aQ Tryz.func79 fun w hw hGF => ?_
 refine xp ?_
 refine lb fun b2 => ?_
 refine lb fun b3 => ?_
 refine la zv25 fun b4 => ?_
 refine aa ?_
 refine bx (E := EE []) a9 (by kernel_rfl) (by kernel_rfl) (by kernel_rfl) ?_
 refine am 2 rfl rfl Tryz.isAgg25 Tryz.sizeOf25 (by first | (simp; done) | exact ha | exact hb | (rw [List.length_map]; exact ha) | (rw [List.length_map]; exact hb)) rfl rfl ?_
 refine am 3 rfl rfl Tryz.isAgg25 Tryz.sizeOf25 (by first | (simp; done) | exact ha | exact hb | (rw [List.length_map]; exact ha) | (rw [List.length_map]; exact hb)) rfl rfl ?_
 refine fb hGF Tryz.isAgg25 Tryz.sizeOf25 (by first | (simp; done) | exact ha | exact hb | (rw [List.length_map]; exact ha) | (rw [List.length_map]; exact hb)) (fun _ h => h.g2) rfl rfl ?_
 refine aE rfl rfl ent77 (eE _ _ _ (by first | (simp; done) | exact ha | exact hb | (rw [List.length_map]; exact ha) | (rw [List.length_map]; exact hb)) (by first | (simp; done) | exact ha | exact hb | (rw [List.length_map]; exact ha) | (rw [List.length_map]; exact hb)) (by first | (simp; done) | exact ha | exact hb | (rw [List.length_map]; exact ha) | (rw [List.length_map]; exact hb))) rfl rfl ?_
 refine fb hGF Tryz.isAgg25 Tryz.sizeOf25 (by first | (simp; done) | exact ha | exact hb | (rw [List.length_map]; exact ha) | (rw [List.length_map]; exact hb)) (fun _ h => h.g1) rfl rfl ?_
 refine fb hGF Tryz.isAgg25 Tryz.sizeOf25 (by first | (simp; done) | exact ha | exact hb | (rw [List.length_map]; exact ha) | (rw [List.length_map]; exact hb)) (fun _ h => h.g2) rfl rfl ?_
 refine aE rfl rfl ent77 (eE _ _ _ (by first | (simp; done) | exact ha | exact hb | (rw [List.length_map]; exact ha) | (rw [List.length_map]; exact hb)) (by first | (simp; done) | exact ha | exact hb | (rw [List.length_map]; exact ha) | (rw [List.length_map]; exact hb)) (by first | (simp; done) | exact ha | exact hb | (rw [List.length_map]; exact ha) | (rw [List.length_map]; exact hb))) rfl rfl ?_
 refine ai 4 hGF rfl rfl rfl Tryz.sizeOf25 (by first | (simp; done) | exact ha | exact hb | (rw [List.length_map]; exact ha) | (rw [List.length_map]; exact hb)) (by first | (simp; done) | exact ha | exact hb | (rw [List.length_map]; exact ha) | (rw [List.length_map]; exact hb)) (ak _) rfl ?_
 refine aa ?_
 refine rt ?_
 exact av 4 rfl rfl rfl Tryz.isAgg25 Tryz.sizeOf25 (by first | (simp; done) | exact ha | exact hb | (rw [List.length_map]; exact ha) | (rw [List.length_map]; exact hb)) (fun w hw => ⟨rfl, ah hw⟩)
theorem qc (n : List (BitVec 64)) (hn : n.length = 6) : Pure Tryz.prog Gt 78 [NV n] (RV (zr (V n 6))) := by
 refine aQ Tryz.func78 fun w hw hGF => ?_
 refine xp ?_
 refine lb fun b1 => ?_
 refine la zv63 fun b2 => ?_
 refine aa ?_
 refine xp ?_
 refine fD 1 rfl Tryz.underlying25 Tryz.sizeOf24 zv25 rfl rfl ?_
 refine am 1 rfl rfl Tryz.isAgg25 Tryz.sizeOf25 (by first | (simp; done) | simp [hn]) rfl rfl ?_
 refine aE rfl rfl ent79 (qX _ _ (by first | (simp; done) | simp [hn]) (by first | (simp; done) | simp [hn])) rfl rfl ?_
 refine bH rfl (by first | (simp; done) | simp [hn]) Tryz.underlying63 rfl Tryz.sizeOf25 zv63 rfl rfl ?_
 refine ai 2 hGF rfl rfl rfl Tryz.sizeOf63 (by first | (simp; done) | simp [hn]) (by first | (simp; done) | simp [hn]) (ak _) rfl ?_
 refine aa ?_
 refine rt ?_
 exact av 2 rfl rfl rfl Tryz.isAgg63 Tryz.sizeOf63 (by first | (simp; done) | simp [hn]) (fun w hw => ⟨congrArg (fun l => Ending.returned (NV l)) (tX n), ah hw⟩)
theorem nb (x : Zr) : Pure Tryz.prog Gt 39 [RV x] (.bool (decide (x = 0))) := by
 refine aQ Tryz.func39 fun w hw hGF => ?_
 refine xp ?_
 refine lb fun b1 => ?_
 refine rF3 ?_
 refine pF3 ?_
 refine fH zv25 Tryz.underlying25 Tryz.sizeOf24 rfl rfl ?_
 refine ab rfl rfl (fun _ => wq _ _ _ _ _ _) (fun w => uy _ _ (by simp) (by simp) w) rfl rfl ?_
 refine rF3 ?_
 refine rt ?_
 exact bh rfl rfl (fun w hw => ⟨by rw [← Gn, tN], ah hw⟩)
theorem tw (x y : Zr) : Pure Tryz.prog Gt 36 [RV x, RV y] (RV (x + y)) := by
 refine aQ Tryz.func36 fun w hw hGF => ?_
 refine xp ?_
 refine lb fun b2 => ?_
 refine lb fun b3 => ?_
 refine la zv63 fun b4 => ?_
 refine aa ?_
 refine pF3 ?_
 refine aE rfl rfl ent94 (iT _ _ (by simp) (by simp)) rfl rfl ?_
 refine rF3 ?_
 refine la zv25 fun b5 => ?_
 refine rF3 ?_
 refine pF3 ?_
 refine fb hGF Tryz.isAgg25 Tryz.sizeOf25 (by simp) (fun _ h => h.g2) rfl rfl ?_
 refine aE rfl rfl ent95 (fI _ _ (by simp) (by simp)) rfl rfl ?_
 refine rF3 ?_
 refine la zv25 fun b7 => ?_
 refine rF3 ?_
 refine ao ?_
 refine pF3 ?_
 refine ab rfl rfl (fun _ => rfl) (fun _ => bp _ _ _) rfl rfl ?_
 refine aa ?_
 refine bE rfl (fun hc => ?_) (fun hc => ?_)
 ·skip
  refine pF3 ?_
  refine bH rfl (by simp) Tryz.underlying63 rfl Tryz.sizeOf25 zv63 rfl rfl ?_
  refine rF3 ?_
  refine rt ?_
  exact av 4 rfl rfl rfl Tryz.isAgg63 Tryz.sizeOf63 (by simp) (fun w hw => ⟨by rw [uC (CJ hc)], ah hw⟩)
 ·skip
  refine aD ?_
  refine pF3 ?_
  refine bH rfl (by simp) Tryz.underlying63 rfl Tryz.sizeOf25 zv63 rfl rfl ?_
  refine rF3 ?_
  refine rt ?_
  exact av 4 rfl rfl rfl Tryz.isAgg63 Tryz.sizeOf63 (by simp) (fun w hw => ⟨by rw [tH (nQ (kY _ _ _) (Ex hc))], ah hw⟩)
theorem oH (x : Zr) : Pure Tryz.prog Gt 29 [RV x] (.agg ((nG x).map U8).toArray) := by
 refine aQ Tryz.func29 fun w hw hGF => ?_
 refine xp ?_
 refine lb fun b1 => ?_
 refine la zv65 fun b2 => ?_
 refine aa ?_
 refine pF3 ?_
 refine aE rfl rfl ent80 (fV _ (by simp)) rfl rfl ?_
 refine la zv115 fun b3 => ?_
 refine rF3 ?_
 refine xp ?_
 refine dd (l := 16) (h' := 48) rfl Tryz.underlying115 Tryz.sizeOf5 rfl rfl (by omega) (by omega) rfl rfl ?_
 refine Ff rfl Tryz.underlying65 (by decide) rfl rfl ?_
 refine aT 3 ((nG x).map U8) rfl rfl Tryz.isAgg65 Tryz.sizeOf65 (by simp) (tg x) rfl rfl ?_
 refine rF3 ?_
 refine rt ?_
 exact av 2 rfl rfl rfl Tryz.isAgg65 Tryz.sizeOf65 (by simp) (fun w hw => ⟨rfl, ah hw⟩)
theorem m5 (a : Option Addr) (len cap : Nat) (bs : List (BitVec 8)) (hl : bs.length = len) (h : len ≤ 48) (w : World) (hw : Gt w) (hby : BytesAt w a bs) :
  Calls Tryz.prog 62 [.slice a len cap].toArray w (fun e w' => e = .returned (.tuple #[NV (FRs bs bs.length), .bool true]) ∧ Grow w w') := by
 subst hl
 exact (ko a cap bs w hw hby).mono fun e w' ⟨he, hg⟩ => ⟨by rw [he, if_neg (by omega)], hg⟩
structure QSt (w : World) (bs : List (BitVec 8)) where
 (k : Nat) (a : Option Addr) (c : Nat)
 hk : k ≤ bs.length
 hc : bs.length - k ≤ c
 hb : BytesAt w a (bs.drop k)
 hm : k = 0 ∨ (bs.length - k) % 48 = 0
theorem pX (y : Zr) : Pure Tryz.prog Gt 77 [NV LIFT, RV y, NV ML] (RV (y * qRZ)) := by
 have h := eE LIFT (nr y) ML rfl (h7 y) rfl
 rw [tS] at h
 exact h
theorem nX (bs : List (BitVec 8)) (h : bs.length ≤ 48) : Pure Tryz.prog Gt 78 [NV (FRs bs bs.length)] (RV (zr (BN bs bs.length))) := oI bs h ▸ qc (FRs bs bs.length) (aM _ _)
theorem oy (e : Option Addr) (cap : Nat) (bs : List (BitVec 8)) (hlen : bs.length ≤ 1000000) (hcap : bs.length ≤ cap) (w : World) (hw : Gt w) (hby : BytesAt w e bs) :
  Calls Tryz.prog 27 [.slice e bs.length cap].toArray w (fun r w' => r = .returned (RV (QB bs)) ∧ Grow w w') := by
 have hGF : BOk Gt (pl w) := gt_low.plain hw
 refine aN (G := Gt) Tryz.func27 rfl rfl (Hp (pl w) []) (a5 (pl w) trivial aq) (ay hGF) ?_
 refine xp ?_
 refine la zv63 fun b2 => ?_
 refine aa ?_
 refine xp ?_
 refine la zv63 fun b3 => ?_
 refine aa ?_
 refine ao ?_
 refine ap ?_
 refine bL (ι := QSt w bs) (fun x => [(0, .slice x.a (bs.length - x.k) x.c), (2, .pointer (some ⟨b2, 0, none⟩)), (3, .pointer (some ⟨b3, 0, none⟩))]) (fun x => [(2, b2, (List.replicate 6 0#64).map U64, 63), (3, b3, (nr (zr (BN bs x.k))).map U64, 63)]) (fun x => (bs.length - x.k)) ⟨0, e, cap, Nat.zero_le _, hcap, hby, .inl rfl⟩ hGF ⟨rfl, rfl, rfl, trivial⟩ ⟨rfl, by rw [BN, DO, Gn]; rfl, trivial⟩ ?_
 intro x
 refine ao ?_
 refine pF3 ?_
 refine bV rfl (fun _ => bi Tryz.underlying22 _ _ _ _) rfl rfl ?_
 refine ab rfl rfl (fun _ => rfl) (fun _ => dR _ _ _) rfl rfl ?_
 refine aa ?_
 refine bE rfl (fun hc => ?_) (fun hc => ?_)
 ·have hn : 0 < (bs.length - x.k) := by simp at hc; omega
  clear hc
  have hlenx := x.hk
  have hcut := ue hn
  have hnext : BytesAt w (if x.c = (((bs.length - x.k) - 1) % 48 + 1) then x.a else x.a.map (·.add ((((bs.length - x.k) - 1) % 48 + 1) * 1))) (bs.drop (x.k + (((bs.length - x.k) - 1) % 48 + 1))) := by
   have := x.hb.drop (cap := x.c) (l := (((bs.length - x.k) - 1) % 48 + 1)) (by rw [List.length_drop]; exact x.hc) (by omega)
   rw [List.drop_drop] at this
   exact this
  have hstep : zr (BN bs x.k) * qRZ + zr (BN ((bs.drop x.k).take (((bs.length - x.k) - 1) % 48 + 1)) ((bs.drop x.k).take (((bs.length - x.k) - 1) % 48 + 1)).length) = zr (BN bs (x.k + (((bs.length - x.k) - 1) % 48 + 1))) := by
   rw [g9 bs x.k _ hcut.2.1, uq]
   exact qd bs x.k _ (h8 id (zf hn) x.hm)
  refine aD ?_
  refine ap ?_
  refine pF3 ?_
  refine bV rfl (fun _ => bi Tryz.underlying22 _ _ _ _) rfl rfl ?_
  refine ab (v := I (((bs.length - x.k) - 1 : Nat) : Int)) rfl rfl (fun _ => rfl) (fun _ => (bF _ _ _ (by unfold inI; omega)).trans (by rw [show ((bs.length - x.k : Nat) : Int) - 1 = ((bs.length - x.k - 1 : Nat) : Int) by omega])) rfl rfl ?_
  refine ab (v := I ((((bs.length - x.k) - 1) % 48 : Nat) : Int)) rfl rfl (fun _ => rfl) (fun _ => cN _ _ _ (by decide)) rfl rfl ?_
  refine ab (v := I (((((bs.length - x.k) - 1) % 48 + 1) : Nat) : Int)) rfl rfl (fun _ => rfl) (fun _ => aC _ _ _ (by unfold inI; omega)) rfl rfl ?_
  refine rF3 ?_
  refine pF3 ?_
  refine sg (l := 0) (h' := (((bs.length - x.k) - 1) % 48 + 1)) rfl Tryz.underlying22 Tryz.sizeOf5 rfl rfl ⟨Nat.zero_le _, Nat.le_trans hcut.2.1 x.hc⟩ rfl rfl ?_
  refine bS rfl rfl ent62 (fun w' hC hG => m5 _ (((bs.length - x.k) - 1) % 48 + 1) _ ((bs.drop x.k).take (((bs.length - x.k) - 1) % 48 + 1)) (g9 bs x.k _ hcut.2.1) hcut.2.2 w' hG ((x.hb.cut 0 (((bs.length - x.k) - 1) % 48 + 1) (by rw [List.length_drop]; exact x.hc)).grow (ah hC))) rfl rfl ?_
  refine rF3 ?_
  refine la zv25 fun b5 => ?_
  refine rF3 ?_
  refine bx (E := EE []) a9 (by kernel_rfl) (by kernel_rfl) (by kernel_rfl) ?_
  refine fb hGF Tryz.isAgg25 Tryz.sizeOf25 (by simp) (fun _ h => h.g1) rfl rfl ?_
  refine rF3 ?_
  refine fb hGF Tryz.isAgg25 Tryz.sizeOf25 (by simp) (fun _ h => h.g2) rfl rfl ?_
  refine lc ent77 (pX _) ?_
  refine bH rfl (by simp) Tryz.underlying63 rfl Tryz.sizeOf25 zv63 rfl rfl ?_
  refine rF3 ?_
  refine aE rfl rfl ent78 (nX ((bs.drop x.k).take (((bs.length - x.k) - 1) % 48 + 1)) (by rw [g9 bs x.k _ hcut.2.1]; exact hcut.2.2)) rfl rfl ?_
  refine lc ent36 (tw _ _) ?_
  refine rF3 ?_
  refine aw (E := EE []) ?_
  refine rF3 ?_
  refine sg (l := (((bs.length - x.k) - 1) % 48 + 1)) (h' := (bs.length - x.k)) rfl Tryz.underlying22 Tryz.sizeOf5 rfl rfl ⟨hcut.2.1, x.hc⟩ rfl rfl ?_
  refine rF3 ?_
  repeat (refine aR ?_)
  refine bc ?_
  exact ⟨rfl, ⟨x.k + (((bs.length - x.k) - 1) % 48 + 1), _, x.c - (((bs.length - x.k) - 1) % 48 + 1), by have := x.hk; omega, by have := x.hc; omega, hnext, .inr (by rw [Nat.sub_add_eq]; exact hcut.1)⟩, _, by show bs.length - (x.k + (((bs.length - x.k) - 1) % 48 + 1)) < bs.length - x.k; omega, rfl, ⟨congrArg (fun n => some (Value.slice _ n _)) (Nat.sub_sub bs.length x.k (((bs.length - x.k) - 1) % 48 + 1)), rfl, rfl, trivial⟩, ⟨rfl, by rw [← hstep]; rfl, trivial⟩⟩
 ·have hn : x.k = bs.length := by simp at hc; have := x.hk; omega
  clear hc
  refine aZ ?_
  refine pF3 ?_
  refine rt ?_
  exact av 2 rfl rfl rfl Tryz.isAgg63 Tryz.sizeOf63 (by simp) (fun w hw => ⟨by rw [hn]; rfl, ah hw⟩)
end
end Go.Proofs.YtpnpiblphnpfiaaGreatDoor
