/-
 The walks of the bits of numbers.
 The walks of package fr: elements of r.
-/
import Derived.Test.YtpnpiblphnpfiaaGreatDoorX6
import Derived.Test.YtpnpiblphnpfiaaGreatDoorX5
import Derived.Test.YtpnpiblphnpfiaaGreatDoorXD
import Derived.Test.YtpnpiblphnpfiaaGreatDoorX4
set_option maxRecDepth 100000
set_option maxHeartbeats 1000000
namespace Go.Proofs.YtpnpiblphnpfiaaGreatDoor
section
open Go.RowKit
theorem rF2 {Q P : Prop} (k : Q) (h : Q → P := by intro k; (refine LY.run ?_); (repeat (first | refine bI rfl rfl rfl ?_ | refine bd rfl rfl rfl ?_ | refine fI rfl rfl rfl rfl rfl ?_)); (first | refine cm ?_ | refine LY.mk ?_); exact k) : P := h k
theorem ent150 : ae Tryz.prog 150 := fun _ _ => by kernel_rfl
theorem ent187 : ae Tryz.prog 187 := fun _ _ => by kernel_rfl
theorem pU (a : List (BitVec 64)) (_ha : a.length = 6) (w : World) (hw : Gt w) : Calls Tryz.prog 150 [.agg ((a).map U64).toArray].toArray w (fun e w' => ∃ b1, e = .returned (.func (.func 187) #[] #[.pointer (some ⟨b1, 0, none⟩)]) ∧ Grow w w' ∧ w.heap.size ≤ b1 ∧ OwnB w' b1 (a.map U64) 25) := by
 have hGF : BOk Gt (pl w) := gt_low.plain hw
 refine aB (G := Gt) Tryz.func150 rfl rfl (Hp (pl w) []) (aJ (pl w) trivial ai) (ap hGF) ?_
 refine xp ?_
 refine lb fun b1 => ?_
 refine rF2 ?_
 refine xp ?_
 refine eQ rfl rfl rfl rfl ?_
 refine rF2 ?_
 refine rt ?_
 exact a5 rfl rfl (fun w hw => ⟨b1, rfl, ah hw, (hw.own 1 b1 _ _ rfl).2.elim id False.elim, (hw.own 1 b1 _ _ rfl).1⟩)
theorem oI (bb : Nat) (a : List (BitVec 64)) (ha : a.length = 6) : eu Tryz.prog Gt 187 [.pointer (some ⟨bb, 0, none⟩)] (BT a) (fun W => W.rangeAt bb 0 (a.map U64)) := by
 intro l J Jx hJ hJx hRd hGx hY w hj
 have okJ : ∀ k, BOk Gt (Bi w (fun Y => J Y k)) := fun k => ⟨fun _ _ _ h => (hRd _ _ _ h.rid).1, hJ k⟩
 have okX : ∀ k, BOk Gt (Bi w (fun Y => Jx Y k)) := fun k => ⟨fun _ _ _ h => hGx _ _ _ h.rid, hJx k⟩
 refine bD (G := Gt) Tryz.func187 rfl rfl (Hp (Bi w (fun Y => J Y 0)) []) (aJ (Bi w _) hj (hJ 0)) (ap (okJ 0)) ?_
 refine ab (E := EE [185]) ?_
 refine gi 2 (okJ _) rfl rfl rfl ?_
 intro b2
 refine aa ?_
 refine ab (E := EE [185]) ?_
 refine dy (l := 0) (h' := 6) rfl Tryz.underlying25 Tryz.sizeOf24 rfl rfl (by omega) (by omega) rfl rfl ?_
 refine ck rfl rfl ent185 rfl rfl (fun w' hw' => (il _ rfl w' ((okJ _).g _ _ _ hw')).mono fun e w'' h => ?_)
 obtain ⟨c2, rfl, hgr, h2, hc2⟩ := h
 refine ⟨_, _, rfl, ap (okJ _), hw'.news (hJ _) hgr [(33, c2, [.slice (some ⟨bb, 0, none⟩) 6 6], 169)] ?_ cH, ?_⟩
 ·intro n' b' c' t' hl
  rcases a6 hl with ⟨_, e⟩ | ⟨_, hl⟩
  ·cases e; exact ⟨h2, hc2⟩
  ·cases hl
 clear hw' hgr h2 hc2
 refine aa ?_
 refine aj ?_
 refine cZ (fun k => (Bi w (fun Y => J Y (dw a k).length))) (fun _ k => Bi w (fun Y => Jx Y (dw a k).length)) (fun _ => okJ _) (fun _ _ => okX _) (fun _ => rfl) (fun _ _ => rfl) rfl rfl ent199 (k5 c2 bb a 6 (by decide) ha) (fun x hx => by obtain ⟨k, hk, rfl⟩ := List.mem_map.1 hx; rfl) rfl (fun _ => [(2, b2, [.func (.yield l) #[] #[]], 132), (33, c2, [.slice (some ⟨bb, 0, none⟩) 6 6], 169)]) (fun c _ _ => c = .ret) ⟨rfl, rfl, trivial⟩ (fun k Y w' h => ⟨ci (n := 33) rfl rfl w' h, (hRd _ _ _ h.rid).2⟩) ?_ ?_ ?_
 ·intro k x hx R hR
  obtain ⟨hk, rfl⟩ := zS a 6 k x hx
  rw [show 64 * 6 - 1 - k = 383 - k from rfl]
  refine ab (E := EE [185]) ?_
  refine rF2 ?_
  refine aq (E := EE [185]) ?_
  refine rF2 ?_
  refine ⟨rfl, _, rfl, ?_⟩
  rcases Decidable.em (dig a (383 - k) = 1) with h1 | h1
  ·skip
   refine aj ?_
   refine ab (E := EE [185]) ?_
   refine rF2 ?_
   refine ac (v := .bool true) rfl rfl (fun _ => rfl) (fun w => (bB _ _ _).trans (congrArg (fun b => Result.ok (Value.bool b) w) (beq_iff_eq.2 h1))) rfl rfl ?_
   refine rF2 ?_
   refine bR 2 rfl rfl rfl Tryz.isAgg132 rfl rfl ?_
   refine rF2 ?_
   refine db ((hY.b (k := (dw a k).length) (GK a k (by omega) h1) w).br R.l R.D R.rb R.Y R.W) (hR (Bi w (fun Y => J Y ((dw a k).length + 1))) rfl (okJ _)).2.1 (hR (Bi w (fun Y => Jx Y ((dw a k).length + 1))) rfl (okX _)).2.1 rfl rfl rfl rfl rfl ?_ ?_
   ·skip
    refine bx rfl (fun _ => bf _) rfl rfl ?_
    refine rF2 ?_
    refine bl rfl ?_
    refine az ?_
    show ∃ L', _ = Hp (R.b (Bi w (fun Y => J Y (dw a (k + 1)).length))) L' ∧ gU L' [(2, b2, [.func (.yield l) #[] #[]], 132), (33, c2, [.slice (some ⟨bb, 0, none⟩) 6 6], 169)]
    rw [nE a k h1]
    exact ⟨_, rfl, ⟨rfl, rfl, trivial⟩⟩
   ·skip
    refine bx rfl (fun _ => bf _) rfl rfl ?_
    refine rF2 ?_
    refine bV rfl ?_
    refine rt ?_
    show ∃ L', _ = Hp (R.b (Bi w (fun Y => Jx Y (dw a (k + 1)).length))) L' ∧ Code.ret = Code.ret
    rw [nE a k h1]
    exact ⟨_, rfl, rfl⟩
  ·skip
   refine aj ?_
   refine ab (E := EE [185, 3000000]) ?_
   refine rF2 ?_
   refine ac (v := .bool false) rfl rfl (fun _ => rfl) (fun w => (bB _ _ _).trans (congrArg (fun b => Result.ok (Value.bool b) w) (beq_eq_false_iff_ne.2 h1))) rfl rfl ?_
   refine rF2 ?_
   refine aC rfl rfl rfl ?_
   refine aC rfl rfl rfl ?_
   refine aC rfl rfl rfl ?_
   refine aC rfl rfl rfl ?_
   refine rF2 ?_
   refine bl rfl ?_
   refine az ?_
   show ∃ L', _ = Hp (R.b (Bi w (fun Y => J Y (dw a (k + 1)).length))) L' ∧ gU L' [(2, b2, [.func (.yield l) #[] #[]], 132), (33, c2, [.slice (some ⟨bb, 0, none⟩) 6 6], 169)]
   rw [zB a k h1]
   exact ⟨_, rfl, ⟨rfl, rfl, trivial⟩⟩
 ·intro D _
  refine cn (.inr rfl) (hJ _) (cF rfl (fun w hw => ⟨⟨_, rfl⟩, .inl ?_⟩))
  have := bG (hJ _) hw.rid
  rw [mL] at this
  rw [CK]
  exact this
 ·intro D c j L' _ hc
  subst hc
  exact cn (.inl rfl) (hJx _) (cF rfl (fun w hw => ⟨⟨_, rfl⟩, .inr ⟨_, bG (hJx _) hw.rid⟩⟩))
end
section
open Go.RowKit
attribute [local simp] fF aM aH aA aF aE fZ MLl Aj IVRl y8 aU
theorem rF3 {Q P : Prop} (k : Q) (h : Q → P := by intro k; (refine LY.run ?_); (repeat (first | refine bI rfl rfl rfl ?_ | refine bd rfl rfl rfl ?_ | ((refine rj rfl rfl ?_ rfl rfl rfl rfl ?_); (· simp)) | ((refine BF rfl rfl ?_ rfl rfl ?_); (· simp)) | ((refine C9 rfl rfl ?_ rfl rfl ?_); (· simp)) | ((refine EL hGF rfl rfl rfl ?_ ?_ (ak _) rfl ?_); (· simp); (· simp)) | ((refine D4 hGF rfl rfl rfl ?_ ?_ (ak _) rfl ?_); (· simp); (· simp)) | ((refine z1 hGF rfl rfl rfl ?_ ?_ (gX _) rfl ?_); (· simp); (· simp)) | ((refine FQ hGF rfl rfl rfl ?_ ?_ (gX _) rfl ?_); (· simp); (· simp)) | refine gh rfl rfl rfl rfl ?_)); (first | refine cm ?_ | refine LY.mk ?_); exact k) : P := h k
theorem pF3 {Q P : Prop} (k : Q) (h : Q → P := by intro k; (refine xp ?_); (refine rF3 ?_); exact k) : P := h k
abbrev RV (x : Zr) : Value := .agg ((nr x).map U64).toArray
theorem zv63 (w : World) : (zeroValue 63).run Tryz.prog w = .ok (.agg ((List.replicate 6 (0#64)).map U64).toArray) w := (Tryz.zeroValue63 w).trans (by rfl)
theorem zv65 (w : World) : (zeroValue 65).run Tryz.prog w = .ok (.agg ((List.replicate 32 (0#8)).map U8).toArray) w := (Tryz.zeroValue65 w).trans (by rfl)
theorem Bx {x y : BitVec 64} (h : (x == y) = true) : x = y := beq_iff_eq.1 h
theorem Bw {x y : BitVec 64} (h : (x == y) = false) : ¬ x = y := beq_eq_false_iff_ne.1 h
theorem ent27 : ae Tryz.prog 27 := fun _ _ => by kernel_rfl
theorem ent29 : ae Tryz.prog 29 := fun _ _ => by kernel_rfl
theorem ent78 : ae Tryz.prog 78 := fun _ _ => by kernel_rfl
theorem ent79 : ae Tryz.prog 79 := fun _ _ => by kernel_rfl
theorem ent36 : ae Tryz.prog 36 := fun _ _ => by kernel_rfl
theorem ent28 : ae Tryz.prog 28 := fun _ _ => by kernel_rfl
theorem ent83 : ae Tryz.prog 83 := fun _ _ => by kernel_rfl
theorem kZ (a b : List (BitVec 64)) (ha : a.length = 6) (hb : b.length = 6) : Pure Tryz.prog Gt 79 [NV a, NV b] (NV (dW (dW a b ML) LIFT ML)) := by
 refine a8 Tryz.func79 fun w hw hGF => ?_
 refine xp ?_
 refine lb fun b2 => ?_
 refine lb fun b3 => ?_
 refine la zv25 fun b4 => ?_
 refine aa ?_
 refine bw (E := EE []) bq (by kernel_rfl) (by kernel_rfl) (by kernel_rfl) ?_
 refine aw 2 rfl rfl Tryz.isAgg25 Tryz.sizeOf25 (by first | (simp; done) | exact ha | exact hb | (rw [List.length_map]; exact ha) | (rw [List.length_map]; exact hb)) rfl rfl ?_
 refine aw 3 rfl rfl Tryz.isAgg25 Tryz.sizeOf25 (by first | (simp; done) | exact ha | exact hb | (rw [List.length_map]; exact ha) | (rw [List.length_map]; exact hb)) rfl rfl ?_
 refine fl hGF Tryz.isAgg25 Tryz.sizeOf25 (by first | (simp; done) | exact ha | exact hb | (rw [List.length_map]; exact ha) | (rw [List.length_map]; exact hb)) (fun _ h => h.g2) rfl rfl ?_
 refine aD rfl rfl ent77 (fk _ _ _ (by first | (simp; done) | exact ha | exact hb | (rw [List.length_map]; exact ha) | (rw [List.length_map]; exact hb)) (by first | (simp; done) | exact ha | exact hb | (rw [List.length_map]; exact ha) | (rw [List.length_map]; exact hb)) (by first | (simp; done) | exact ha | exact hb | (rw [List.length_map]; exact ha) | (rw [List.length_map]; exact hb))) rfl rfl ?_
 refine fl hGF Tryz.isAgg25 Tryz.sizeOf25 (by first | (simp; done) | exact ha | exact hb | (rw [List.length_map]; exact ha) | (rw [List.length_map]; exact hb)) (fun _ h => h.g1) rfl rfl ?_
 refine fl hGF Tryz.isAgg25 Tryz.sizeOf25 (by first | (simp; done) | exact ha | exact hb | (rw [List.length_map]; exact ha) | (rw [List.length_map]; exact hb)) (fun _ h => h.g2) rfl rfl ?_
 refine aD rfl rfl ent77 (fk _ _ _ (by first | (simp; done) | exact ha | exact hb | (rw [List.length_map]; exact ha) | (rw [List.length_map]; exact hb)) (by first | (simp; done) | exact ha | exact hb | (rw [List.length_map]; exact ha) | (rw [List.length_map]; exact hb)) (by first | (simp; done) | exact ha | exact hb | (rw [List.length_map]; exact ha) | (rw [List.length_map]; exact hb))) rfl rfl ?_
 refine am 4 hGF rfl rfl rfl Tryz.sizeOf25 (by first | (simp; done) | exact ha | exact hb | (rw [List.length_map]; exact ha) | (rw [List.length_map]; exact hb)) (by first | (simp; done) | exact ha | exact hb | (rw [List.length_map]; exact ha) | (rw [List.length_map]; exact hb)) (ak _) rfl ?_
 refine aa ?_
 refine rt ?_
 exact av 4 rfl rfl rfl Tryz.isAgg25 Tryz.sizeOf25 (by first | (simp; done) | exact ha | exact hb | (rw [List.length_map]; exact ha) | (rw [List.length_map]; exact hb)) (fun w hw => ⟨rfl, ah hw⟩)
theorem l6 (x y : Zr) : Pure Tryz.prog Gt 28 [RV x, RV y] (RV (x * y)) := by
 refine a8 Tryz.func28 fun w hw hGF => ?_
 refine xp ?_
 refine lb fun b2 => ?_
 refine lb fun b3 => ?_
 refine la zv63 fun b4 => ?_
 refine aa ?_
 refine pF3 ?_
 refine aD rfl rfl ent79 (kZ _ _ (by simp) (by simp)) rfl rfl ?_
 refine cv rfl (by simp) Tryz.underlying63 rfl Tryz.sizeOf25 zv63 rfl rfl ?_
 refine rF3 ?_
 refine rt ?_
 exact av 4 rfl rfl rfl Tryz.isAgg63 Tryz.sizeOf63 (by simp) (fun w hw => ⟨by rw [sV], ah hw⟩)
theorem o9 (n : List (BitVec 64)) (hn : n.length = 6) : Pure Tryz.prog Gt 78 [NV n] (RV (zr (V n 6))) := by
 refine a8 Tryz.func78 fun w hw hGF => ?_
 refine xp ?_
 refine lb fun b1 => ?_
 refine la zv63 fun b2 => ?_
 refine aa ?_
 refine xp ?_
 refine lP 1 rfl Tryz.underlying25 Tryz.sizeOf24 zv25 rfl rfl ?_
 refine aw 1 rfl rfl Tryz.isAgg25 Tryz.sizeOf25 (by first | (simp; done) | simp [hn]) rfl rfl ?_
 refine aD rfl rfl ent79 (kZ _ _ (by first | (simp; done) | simp [hn]) (by first | (simp; done) | simp [hn])) rfl rfl ?_
 refine cv rfl (by first | (simp; done) | simp [hn]) Tryz.underlying63 rfl Tryz.sizeOf25 zv63 rfl rfl ?_
 refine am 2 hGF rfl rfl rfl Tryz.sizeOf63 (by first | (simp; done) | simp [hn]) (by first | (simp; done) | simp [hn]) (ak _) rfl ?_
 refine aa ?_
 refine rt ?_
 exact av 2 rfl rfl rfl Tryz.isAgg63 Tryz.sizeOf63 (by first | (simp; done) | simp [hn]) (fun w hw => ⟨congrArg (fun l => Ending.returned (NV l)) (te n), ah hw⟩)
theorem sX (x y : Zr) : Pure Tryz.prog Gt 36 [RV x, RV y] (RV (x + y)) := by
 refine a8 Tryz.func36 fun w hw hGF => ?_
 refine xp ?_
 refine lb fun b2 => ?_
 refine lb fun b3 => ?_
 refine la zv63 fun b4 => ?_
 refine aa ?_
 refine pF3 ?_
 refine aD rfl rfl ent94 (gZ _ _ (by simp) (by simp)) rfl rfl ?_
 refine rF3 ?_
 refine la zv25 fun b5 => ?_
 refine rF3 ?_
 refine pF3 ?_
 refine fl hGF Tryz.isAgg25 Tryz.sizeOf25 (by simp) (fun _ h => h.g2) rfl rfl ?_
 refine aD rfl rfl ent95 (fb _ _ (by simp) (by simp)) rfl rfl ?_
 refine rF3 ?_
 refine la zv25 fun b7 => ?_
 refine rF3 ?_
 refine ao ?_
 refine pF3 ?_
 refine ac rfl rfl (fun _ => rfl) (fun _ => bB _ _ _) rfl rfl ?_
 refine aa ?_
 refine bM rfl (fun hc => ?_) (fun hc => ?_)
 ·skip
  refine pF3 ?_
  refine cv rfl (by simp) Tryz.underlying63 rfl Tryz.sizeOf25 zv63 rfl rfl ?_
  refine rF3 ?_
  refine rt ?_
  exact av 4 rfl rfl rfl Tryz.isAgg63 Tryz.sizeOf63 (by simp) (fun w hw => ⟨by rw [tE (Bx hc)], ah hw⟩)
 ·skip
  refine az ?_
  refine pF3 ?_
  refine cv rfl (by simp) Tryz.underlying63 rfl Tryz.sizeOf25 zv63 rfl rfl ?_
  refine rF3 ?_
  refine rt ?_
  exact av 4 rfl rfl rfl Tryz.isAgg63 Tryz.sizeOf63 (by simp) (fun w hw => ⟨by rw [sO (po (pZ _ _ _) (Bw hc))], ah hw⟩)
theorem nd (x : Zr) : Pure Tryz.prog Gt 29 [RV x] (.agg ((lp x).map U8).toArray) := by
 refine a8 Tryz.func29 fun w hw hGF => ?_
 refine xp ?_
 refine lb fun b1 => ?_
 refine la zv65 fun b2 => ?_
 refine aa ?_
 refine pF3 ?_
 refine aD rfl rfl ent80 (iA _ (by simp)) rfl rfl ?_
 refine la zv115 fun b3 => ?_
 refine rF3 ?_
 refine xp ?_
 refine dy (l := 16) (h' := 48) rfl Tryz.underlying115 Tryz.sizeOf5 rfl rfl (by omega) (by omega) rfl rfl ?_
 refine B3 rfl Tryz.underlying65 (by decide) rfl rfl ?_
 refine aV 3 ((lp x).map U8) rfl rfl Tryz.isAgg65 Tryz.sizeOf65 (by simp) (sY x) rfl rfl ?_
 refine rF3 ?_
 refine rt ?_
 exact av 2 rfl rfl rfl Tryz.isAgg65 Tryz.sizeOf65 (by simp) (fun w hw => ⟨rfl, ah hw⟩)
theorem mO (a : Option Addr) (len cap : Nat) (bs : List (BitVec 8)) (hl : bs.length = len) (h : len ≤ 48) (w : World) (hw : Gt w) (hby : BytesAt w a bs) :
  Calls Tryz.prog 62 [.slice a len cap].toArray w (fun e w' => e = .returned (.tuple #[NV (FRs bs bs.length), .bool true]) ∧ Grow w w') := by
 subst hl
 exact (kg a cap bs w hw hby).mono fun e w' ⟨he, hg⟩ => ⟨by rw [he, if_neg (by omega)], hg⟩
structure QSt (w : World) (bs : List (BitVec 8)) where
 (k : Nat) (a : Option Addr) (c : Nat)
 hk : k ≤ bs.length
 hc : bs.length - k ≤ c
 hb : BytesAt w a (bs.drop k)
 hm : k = 0 ∨ (bs.length - k) % 48 = 0
theorem pO (y : Zr) : Pure Tryz.prog Gt 77 [NV LIFT, RV y, NV ML] (RV (y * qRZ)) := by
 have h := fk LIFT (nr y) ML rfl (fF y) rfl
 rw [sR] at h
 exact h
theorem ou (bs : List (BitVec 8)) (h : bs.length ≤ 48) : Pure Tryz.prog Gt 78 [NV (FRs bs bs.length)] (RV (zr (BN bs bs.length))) := nB bs h ▸ o9 (FRs bs bs.length) (aF _ _)
theorem i1 (e : Option Addr) (cap : Nat) (bs : List (BitVec 8)) (hlen : bs.length ≤ 1000000) (hcap : bs.length ≤ cap) (w : World) (hw : Gt w) (hby : BytesAt w e bs) :
  Calls Tryz.prog 27 [.slice e bs.length cap].toArray w (fun r w' => r = .returned (RV (QB bs)) ∧ Grow w w') := by
 have hGF : BOk Gt (pl w) := gt_low.plain hw
 refine aB (G := Gt) Tryz.func27 rfl rfl (Hp (pl w) []) (aJ (pl w) trivial ai) (ap hGF) ?_
 refine xp ?_
 refine la zv63 fun b2 => ?_
 refine aa ?_
 refine xp ?_
 refine la zv63 fun b3 => ?_
 refine aa ?_
 refine ao ?_
 refine aj ?_
 refine cy (ι := QSt w bs) (fun x => [(0, .slice x.a (bs.length - x.k) x.c), (2, .pointer (some ⟨b2, 0, none⟩)), (3, .pointer (some ⟨b3, 0, none⟩))]) (fun x => [(2, b2, (List.replicate 6 0#64).map U64, 63), (3, b3, (nr (zr (BN bs x.k))).map U64, 63)]) (fun x => (bs.length - x.k)) ⟨0, e, cap, Nat.zero_le _, hcap, hby, .inl rfl⟩ hGF ⟨rfl, rfl, rfl, trivial⟩ ⟨rfl, by rw [BN, BV, nr_0]; rfl, trivial⟩ ?_
 intro x
 refine ao ?_
 refine pF3 ?_
 refine bt rfl (fun _ => aK Tryz.underlying22 _ _ _ _) rfl rfl ?_
 refine ac rfl rfl (fun _ => rfl) (fun _ => bF _ _ _) rfl rfl ?_
 refine aa ?_
 refine bM rfl (fun hc => ?_) (fun hc => ?_)
 ·have hn : 0 < (bs.length - x.k) := by simp at hc; omega
  clear hc
  have hlenx := x.hk
  have hcut := sC hn
  have hnext : BytesAt w (if x.c = (((bs.length - x.k) - 1) % 48 + 1) then x.a else x.a.map (·.add ((((bs.length - x.k) - 1) % 48 + 1) * 1))) (bs.drop (x.k + (((bs.length - x.k) - 1) % 48 + 1))) := by
   have := x.hb.drop (cap := x.c) (l := (((bs.length - x.k) - 1) % 48 + 1)) (by rw [List.length_drop]; exact x.hc) (by omega)
   rw [List.drop_drop] at this
   exact this
  have hstep : zr (BN bs x.k) * qRZ + zr (BN ((bs.drop x.k).take (((bs.length - x.k) - 1) % 48 + 1)) ((bs.drop x.k).take (((bs.length - x.k) - 1) % 48 + 1)).length) = zr (BN bs (x.k + (((bs.length - x.k) - 1) % 48 + 1))) := by
   rw [gV bs x.k _ hcut.2.1, vC]
   exact qA bs x.k _ (gc id (xL hn) x.hm)
  refine az ?_
  refine aj ?_
  refine pF3 ?_
  refine bt rfl (fun _ => aK Tryz.underlying22 _ _ _ _) rfl rfl ?_
  refine ac (v := I (((bs.length - x.k) - 1 : Nat) : Int)) rfl rfl (fun _ => rfl) (fun _ => (bj _ _ _ (by unfold inI; omega)).trans (by rw [show ((bs.length - x.k : Nat) : Int) - 1 = ((bs.length - x.k - 1 : Nat) : Int) by omega])) rfl rfl ?_
  refine ac (v := I ((((bs.length - x.k) - 1) % 48 : Nat) : Int)) rfl rfl (fun _ => rfl) (fun _ => ee _ _ _ (by decide)) rfl rfl ?_
  refine ac (v := I (((((bs.length - x.k) - 1) % 48 + 1) : Nat) : Int)) rfl rfl (fun _ => rfl) (fun _ => aI _ _ _ (by unfold inI; omega)) rfl rfl ?_
  refine rF3 ?_
  refine pF3 ?_
  refine rQ (l := 0) (h' := (((bs.length - x.k) - 1) % 48 + 1)) rfl Tryz.underlying22 Tryz.sizeOf5 rfl rfl ⟨Nat.zero_le _, Nat.le_trans hcut.2.1 x.hc⟩ rfl rfl ?_
  refine bE rfl rfl ent62 (fun w' hC hG => mO _ (((bs.length - x.k) - 1) % 48 + 1) _ ((bs.drop x.k).take (((bs.length - x.k) - 1) % 48 + 1)) (gV bs x.k _ hcut.2.1) hcut.2.2 w' hG ((x.hb.cut 0 (((bs.length - x.k) - 1) % 48 + 1) (by rw [List.length_drop]; exact x.hc)).grow (ah hC))) rfl rfl ?_
  refine rF3 ?_
  refine la zv25 fun b5 => ?_
  refine rF3 ?_
  refine bw (E := EE []) bq (by kernel_rfl) (by kernel_rfl) (by kernel_rfl) ?_
  refine fl hGF Tryz.isAgg25 Tryz.sizeOf25 (by simp) (fun _ h => h.g1) rfl rfl ?_
  refine rF3 ?_
  refine fl hGF Tryz.isAgg25 Tryz.sizeOf25 (by simp) (fun _ h => h.g2) rfl rfl ?_
  refine lc ent77 (pO _) ?_
  refine cv rfl (by simp) Tryz.underlying63 rfl Tryz.sizeOf25 zv63 rfl rfl ?_
  refine rF3 ?_
  refine aD rfl rfl ent78 (ou ((bs.drop x.k).take (((bs.length - x.k) - 1) % 48 + 1)) (by rw [gV bs x.k _ hcut.2.1]; exact hcut.2.2)) rfl rfl ?_
  refine lc ent36 (sX _ _) ?_
  refine rF3 ?_
  refine aq (E := EE []) ?_
  refine rF3 ?_
  refine rQ (l := (((bs.length - x.k) - 1) % 48 + 1)) (h' := (bs.length - x.k)) rfl Tryz.underlying22 Tryz.sizeOf5 rfl rfl ⟨hcut.2.1, x.hc⟩ rfl rfl ?_
  refine rF3 ?_
  repeat (refine aO ?_)
  refine bi ?_
  exact ⟨rfl, ⟨x.k + (((bs.length - x.k) - 1) % 48 + 1), _, x.c - (((bs.length - x.k) - 1) % 48 + 1), by have := x.hk; omega, by have := x.hc; omega, hnext, .inr (by rw [Nat.sub_add_eq]; exact hcut.1)⟩, _, by show bs.length - (x.k + (((bs.length - x.k) - 1) % 48 + 1)) < bs.length - x.k; omega, rfl, ⟨congrArg (fun n => some (Value.slice _ n _)) (Nat.sub_sub bs.length x.k (((bs.length - x.k) - 1) % 48 + 1)), rfl, rfl, trivial⟩, ⟨rfl, by rw [← hstep]; rfl, trivial⟩⟩
 ·have hn : x.k = bs.length := by simp at hc; have := x.hk; omega
  clear hc
  refine aW ?_
  refine pF3 ?_
  refine rt ?_
  exact av 2 rfl rfl rfl Tryz.isAgg63 Tryz.sizeOf63 (by simp) (fun w hw => ⟨by rw [hn]; rfl, ah hw⟩)
end
end Go.Proofs.YtpnpiblphnpfiaaGreatDoor
