/-
 The walks of the bits of numbers.
 The walks of package fr: elements of r.
-/
import Derived.Test.YtpnpiblphnpfiaaGreatDoorX6
import Derived.Test.YtpnpiblphnpfiaaGreatDoorX5
import Derived.Test.YtpnpiblphnpfiaaGreatDoorXD
import Derived.Test.YtpnpiblphnpfiaaGreatDoorX4
set_option maxRecDepth 100000
set_option maxHeartbeats 1000000
namespace Go.Proofs.YtpnpiblphnpfiaaGreatDoor
section
open Go.RowKit
theorem rF2 {Q P : Prop} (k : Q) (h : Q → P := by intro k; (refine LY.run ?_); (repeat (first | refine bK rfl rfl rfl ?_ | refine bg rfl rfl rfl ?_ | refine fN rfl rfl rfl rfl rfl ?_)); (first | refine ci ?_ | refine LY.mk ?_); exact k) : P := h k
theorem ent150 : ae Tryz.prog 150 := fun _ _ => by kernel_rfl
theorem ent187 : ae Tryz.prog 187 := fun _ _ => by kernel_rfl
theorem ql (a : List (BitVec 64)) (_ha : a.length = 6) (w : World) (hw : Gt w) : Calls Tryz.prog 150 [.agg ((a).map U64).toArray].toArray w (fun e w' => ∃ b1, e = .returned (.func (.func 187) #[] #[.pointer (some ⟨b1, 0, none⟩)]) ∧ Grow w w' ∧ w.heap.size ≤ b1 ∧ OwnB w' b1 (a.map U64) 25) := by
 have hGF : BOk Gt (pl w) := gt_low.plain hw
 refine aE (G := Gt) Tryz.func150 rfl rfl (Hp (pl w) []) (aO (pl w) trivial ai) (ap hGF) ?_
 refine xp ?_
 refine lb fun b1 => ?_
 refine rF2 ?_
 refine xp ?_
 refine gz rfl rfl rfl rfl ?_
 refine rF2 ?_
 refine rt ?_
 exact a6 rfl rfl (fun w hw => ⟨b1, rfl, ah hw, (hw.own 1 b1 _ _ rfl).2.elim id False.elim, (hw.own 1 b1 _ _ rfl).1⟩)
theorem nd (bb : Nat) (a : List (BitVec 64)) (ha : a.length = 6) : eO Tryz.prog Gt 187 [.pointer (some ⟨bb, 0, none⟩)] (BT a) (fun W => W.rangeAt bb 0 (a.map U64)) := by
 intro l J Jx hJ hJx hRd hGx hY w hj
 have okJ : ∀ k, BOk Gt (Bi w (fun Y => J Y k)) := fun k => ⟨fun _ _ _ h => (hRd _ _ _ h.rid).1, hJ k⟩
 have okX : ∀ k, BOk Gt (Bi w (fun Y => Jx Y k)) := fun k => ⟨fun _ _ _ h => hGx _ _ _ h.rid, hJx k⟩
 refine bF (G := Gt) Tryz.func187 rfl rfl (Hp (Bi w (fun Y => J Y 0)) []) (aO (Bi w _) hj (hJ 0)) (ap (okJ 0)) ?_
 refine ab (E := EE [185]) ?_
 refine iQ 2 (okJ _) rfl rfl rfl ?_
 intro b2
 refine aa ?_
 refine ab (E := EE [185]) ?_
 refine ff (l := 0) (h' := 6) rfl Tryz.underlying25 Tryz.sizeOf24 rfl rfl (by omega) (by omega) rfl rfl ?_
 refine cq rfl rfl ent185 rfl rfl (fun w' hw' => (h7 _ rfl w' ((okJ _).g _ _ _ hw')).mono fun e w'' h => ?_)
 obtain ⟨c2, rfl, hgr, h2, hc2⟩ := h
 refine ⟨_, _, rfl, ap (okJ _), hw'.news (hJ _) hgr [(33, c2, [.slice (some ⟨bb, 0, none⟩) 6 6], 169)] ?_ cZ, ?_⟩
 ·intro n' b' c' t' hl
  rcases bd hl with ⟨_, e⟩ | ⟨_, hl⟩
  ·cases e; exact ⟨h2, hc2⟩
  ·cases hl
 clear hw' hgr h2 hc2
 refine aa ?_
 refine aj ?_
 refine da (fun k => (Bi w (fun Y => J Y (dw a k).length))) (fun _ k => Bi w (fun Y => Jx Y (dw a k).length)) (fun _ => okJ _) (fun _ _ => okX _) (fun _ => rfl) (fun _ _ => rfl) rfl rfl ent199 (kR c2 bb a 6 (by decide) ha) (fun x hx => by obtain ⟨k, hk, rfl⟩ := List.mem_map.1 hx; rfl) rfl (fun _ => [(2, b2, [.func (.yield l) #[] #[]], 132), (33, c2, [.slice (some ⟨bb, 0, none⟩) 6 6], 169)]) (fun c _ _ => c = .ret) ⟨rfl, rfl, trivial⟩ (fun k Y w' h => ⟨cB (n := 33) rfl rfl w' h, (hRd _ _ _ h.rid).2⟩) ?_ ?_ ?_
 ·intro k x hx R hR
  obtain ⟨hk, rfl⟩ := Aw a 6 k x hx
  rw [show 64 * 6 - 1 - k = 383 - k from rfl]
  refine ab (E := EE [185]) ?_
  refine rF2 ?_
  refine au (E := EE [185]) ?_
  refine rF2 ?_
  refine ⟨rfl, _, rfl, ?_⟩
  rcases Decidable.em (dig a (383 - k) = 1) with h1 | h1
  ·skip
   refine aj ?_
   refine ab (E := EE [185]) ?_
   refine rF2 ?_
   refine ac (v := .bool true) rfl rfl (fun _ => rfl) (fun w => (bz _ _ _).trans (congrArg (fun b => Result.ok (Value.bool b) w) (beq_iff_eq.2 h1))) rfl rfl ?_
   refine rF2 ?_
   refine bT 2 rfl rfl rfl Tryz.isAgg132 rfl rfl ?_
   refine rF2 ?_
   refine dv ((hY.b (k := (dw a k).length) (EC a k (by omega) h1) w).br R.l R.D R.rb R.Y R.W) (hR (Bi w (fun Y => J Y ((dw a k).length + 1))) rfl (okJ _)).2.1 (hR (Bi w (fun Y => Jx Y ((dw a k).length + 1))) rfl (okX _)).2.1 rfl rfl rfl rfl rfl ?_ ?_
   ·skip
    refine bC rfl (fun _ => bi _) rfl rfl ?_
    refine rF2 ?_
    refine bf rfl ?_
    refine aA ?_
    show ∃ L', _ = Hp (R.b (Bi w (fun Y => J Y (dw a (k + 1)).length))) L' ∧ gP L' [(2, b2, [.func (.yield l) #[] #[]], 132), (33, c2, [.slice (some ⟨bb, 0, none⟩) 6 6], 169)]
    rw [ni a k h1]
    exact ⟨_, rfl, ⟨rfl, rfl, trivial⟩⟩
   ·skip
    refine bC rfl (fun _ => bi _) rfl rfl ?_
    refine rF2 ?_
    refine cg rfl ?_
    refine rt ?_
    show ∃ L', _ = Hp (R.b (Bi w (fun Y => Jx Y (dw a (k + 1)).length))) L' ∧ Code.ret = Code.ret
    rw [ni a k h1]
    exact ⟨_, rfl, rfl⟩
  ·skip
   refine aj ?_
   refine ab (E := EE [185, 3000000]) ?_
   refine rF2 ?_
   refine ac (v := .bool false) rfl rfl (fun _ => rfl) (fun w => (bz _ _ _).trans (congrArg (fun b => Result.ok (Value.bool b) w) (beq_eq_false_iff_ne.2 h1))) rfl rfl ?_
   refine rF2 ?_
   refine aH rfl rfl rfl ?_
   refine aH rfl rfl rfl ?_
   refine aH rfl rfl rfl ?_
   refine aH rfl rfl rfl ?_
   refine rF2 ?_
   refine bf rfl ?_
   refine aA ?_
   show ∃ L', _ = Hp (R.b (Bi w (fun Y => J Y (dw a (k + 1)).length))) L' ∧ gP L' [(2, b2, [.func (.yield l) #[] #[]], 132), (33, c2, [.slice (some ⟨bb, 0, none⟩) 6 6], 169)]
   rw [zD a k h1]
   exact ⟨_, rfl, ⟨rfl, rfl, trivial⟩⟩
 ·intro D _
  refine cm (.inr rfl) (hJ _) (cO rfl (fun w hw => ⟨⟨_, rfl⟩, .inl ?_⟩))
  have := bN (hJ _) hw.rid
  rw [my] at this
  rw [Cs]
  exact this
 ·intro D c j L' _ hc
  subst hc
  exact cm (.inl rfl) (hJx _) (cO rfl (fun w hw => ⟨⟨_, rfl⟩, .inr ⟨_, bN (hJx _) hw.rid⟩⟩))
end
section
open Go.RowKit
attribute [local simp] e8 aI aF aw aC aB fy MLl AJ IVRl xN aP
theorem rF3 {Q P : Prop} (k : Q) (h : Q → P := by intro k; (refine LY.run ?_); (repeat (first | refine bK rfl rfl rfl ?_ | refine bg rfl rfl rfl ?_ | ((refine qE rfl rfl ?_ rfl rfl rfl rfl ?_); (· simp)) | ((refine Bz rfl rfl ?_ rfl rfl ?_); (· simp)) | ((refine CK rfl rfl ?_ rfl rfl ?_); (· simp)) | ((refine Gv hGF rfl rfl rfl ?_ ?_ (ak _) rfl ?_); (· simp); (· simp)) | ((refine Bv hGF rfl rfl rfl ?_ ?_ (ak _) rfl ?_); (· simp); (· simp)) | ((refine AG hGF rfl rfl rfl ?_ ?_ (iG _) rfl ?_); (· simp); (· simp)) | ((refine sa65 hGF rfl rfl rfl ?_ ?_ (iG _) rfl ?_); (· simp); (· simp)) | refine gc rfl rfl rfl rfl ?_)); (first | refine ci ?_ | refine LY.mk ?_); exact k) : P := h k
theorem pF3 {Q P : Prop} (k : Q) (h : Q → P := by intro k; (refine xp ?_); (refine rF3 ?_); exact k) : P := h k
abbrev RV (x : Zr) : Value := .agg ((nr x).map U64).toArray
theorem zv63 (w : World) : (zeroValue 63).run Tryz.prog w = .ok (.agg ((List.replicate 6 (0#64)).map U64).toArray) w := (Tryz.zeroValue63 w).trans (by rfl)
theorem sL (x y : Zr) : decide (nr x = nr y) = decide (x = y) := decide_eq_decide.2 Bx
theorem Cr {x y : BitVec 64} (h : (x == y) = true) : x = y := beq_iff_eq.1 h
theorem Bj {x y : BitVec 64} (h : (x == y) = false) : ¬ x = y := beq_eq_false_iff_ne.1 h
theorem ent27 : ae Tryz.prog 27 := fun _ _ => by kernel_rfl
theorem ent44 : ae Tryz.prog 44 := fun _ _ => by kernel_rfl
theorem ent78 : ae Tryz.prog 78 := fun _ _ => by kernel_rfl
theorem ent79 : ae Tryz.prog 79 := fun _ _ => by kernel_rfl
theorem ent36 : ae Tryz.prog 36 := fun _ _ => by kernel_rfl
theorem ent83 : ae Tryz.prog 83 := fun _ _ => by kernel_rfl
theorem qe (a b : List (BitVec 64)) (ha : a.length = 6) (hb : b.length = 6) : Pure Tryz.prog Gt 79 [NV a, NV b] (NV (el (el a b ML) LIFT ML)) := by
 refine bc Tryz.func79 fun w hw hGF => ?_
 refine xp ?_
 refine lb fun b2 => ?_
 refine lb fun b3 => ?_
 refine la zv25 fun b4 => ?_
 refine aa ?_
 refine bw (E := EE []) bq (by kernel_rfl) (by kernel_rfl) (by kernel_rfl) ?_
 refine av 2 rfl rfl Tryz.isAgg25 Tryz.sizeOf25 (by first | (simp; done) | exact ha | exact hb | (rw [List.length_map]; exact ha) | (rw [List.length_map]; exact hb)) rfl rfl ?_
 refine av 3 rfl rfl Tryz.isAgg25 Tryz.sizeOf25 (by first | (simp; done) | exact ha | exact hb | (rw [List.length_map]; exact ha) | (rw [List.length_map]; exact hb)) rfl rfl ?_
 refine fg hGF Tryz.isAgg25 Tryz.sizeOf25 (by first | (simp; done) | exact ha | exact hb | (rw [List.length_map]; exact ha) | (rw [List.length_map]; exact hb)) (fun _ h => h.g2) rfl rfl ?_
 refine aG rfl rfl ent77 (ft _ _ _ (by first | (simp; done) | exact ha | exact hb | (rw [List.length_map]; exact ha) | (rw [List.length_map]; exact hb)) (by first | (simp; done) | exact ha | exact hb | (rw [List.length_map]; exact ha) | (rw [List.length_map]; exact hb)) (by first | (simp; done) | exact ha | exact hb | (rw [List.length_map]; exact ha) | (rw [List.length_map]; exact hb))) rfl rfl ?_
 refine fg hGF Tryz.isAgg25 Tryz.sizeOf25 (by first | (simp; done) | exact ha | exact hb | (rw [List.length_map]; exact ha) | (rw [List.length_map]; exact hb)) (fun _ h => h.g1) rfl rfl ?_
 refine fg hGF Tryz.isAgg25 Tryz.sizeOf25 (by first | (simp; done) | exact ha | exact hb | (rw [List.length_map]; exact ha) | (rw [List.length_map]; exact hb)) (fun _ h => h.g2) rfl rfl ?_
 refine aG rfl rfl ent77 (ft _ _ _ (by first | (simp; done) | exact ha | exact hb | (rw [List.length_map]; exact ha) | (rw [List.length_map]; exact hb)) (by first | (simp; done) | exact ha | exact hb | (rw [List.length_map]; exact ha) | (rw [List.length_map]; exact hb)) (by first | (simp; done) | exact ha | exact hb | (rw [List.length_map]; exact ha) | (rw [List.length_map]; exact hb))) rfl rfl ?_
 refine ao 4 hGF rfl rfl rfl Tryz.sizeOf25 (by first | (simp; done) | exact ha | exact hb | (rw [List.length_map]; exact ha) | (rw [List.length_map]; exact hb)) (by first | (simp; done) | exact ha | exact hb | (rw [List.length_map]; exact ha) | (rw [List.length_map]; exact hb)) (ak _) rfl ?_
 refine aa ?_
 refine rt ?_
 exact ay 4 rfl rfl rfl Tryz.isAgg25 Tryz.sizeOf25 (by first | (simp; done) | exact ha | exact hb | (rw [List.length_map]; exact ha) | (rw [List.length_map]; exact hb)) (fun w hw => ⟨rfl, ah hw⟩)
theorem qc (n : List (BitVec 64)) (hn : n.length = 6) : Pure Tryz.prog Gt 78 [NV n] (RV (zr (V n 6))) := by
 refine bc Tryz.func78 fun w hw hGF => ?_
 refine xp ?_
 refine lb fun b1 => ?_
 refine la zv63 fun b2 => ?_
 refine aa ?_
 refine xp ?_
 refine lv 1 rfl Tryz.underlying25 Tryz.sizeOf24 zv25 rfl rfl ?_
 refine av 1 rfl rfl Tryz.isAgg25 Tryz.sizeOf25 (by first | (simp; done) | simp [hn]) rfl rfl ?_
 refine aG rfl rfl ent79 (qe _ _ (by first | (simp; done) | simp [hn]) (by first | (simp; done) | simp [hn])) rfl rfl ?_
 refine cG rfl (by first | (simp; done) | simp [hn]) Tryz.underlying63 rfl Tryz.sizeOf25 zv63 rfl rfl ?_
 refine ao 2 hGF rfl rfl rfl Tryz.sizeOf63 (by first | (simp; done) | simp [hn]) (by first | (simp; done) | simp [hn]) (ak _) rfl ?_
 refine aa ?_
 refine rt ?_
 exact ay 2 rfl rfl rfl Tryz.isAgg63 Tryz.sizeOf63 (by first | (simp; done) | simp [hn]) (fun w hw => ⟨congrArg (fun l => Ending.returned (NV l)) (sr n), ah hw⟩)
theorem f7 (x y : Zr) : Pure Tryz.prog Gt 44 [RV x, RV y] (.bool (decide (x = y))) := by
 refine bc Tryz.func44 fun w hw hGF => ?_
 refine xp ?_
 refine lb fun b2 => ?_
 refine lb fun b3 => ?_
 refine rF3 ?_
 refine pF3 ?_
 refine ac rfl rfl (fun _ => wV _ _ _ _ _ _) (fun w => wR _ _ (by simp) (by simp) w) rfl rfl ?_
 refine rF3 ?_
 refine rt ?_
 exact a6 rfl rfl (fun w hw => ⟨by rw [sL], ah hw⟩)
theorem sk (x y : Zr) : Pure Tryz.prog Gt 36 [RV x, RV y] (RV (x + y)) := by
 refine bc Tryz.func36 fun w hw hGF => ?_
 refine xp ?_
 refine lb fun b2 => ?_
 refine lb fun b3 => ?_
 refine la zv63 fun b4 => ?_
 refine aa ?_
 refine pF3 ?_
 refine aG rfl rfl ent94 (il _ _ (by simp) (by simp)) rfl rfl ?_
 refine rF3 ?_
 refine la zv25 fun b5 => ?_
 refine rF3 ?_
 refine pF3 ?_
 refine fg hGF Tryz.isAgg25 Tryz.sizeOf25 (by simp) (fun _ h => h.g2) rfl rfl ?_
 refine aG rfl rfl ent95 (fA _ _ (by simp) (by simp)) rfl rfl ?_
 refine rF3 ?_
 refine la zv25 fun b7 => ?_
 refine rF3 ?_
 refine am ?_
 refine pF3 ?_
 refine ac rfl rfl (fun _ => rfl) (fun _ => bz _ _ _) rfl rfl ?_
 refine aa ?_
 refine bO rfl (fun hc => ?_) (fun hc => ?_)
 ·skip
  refine pF3 ?_
  refine cG rfl (by simp) Tryz.underlying63 rfl Tryz.sizeOf25 zv63 rfl rfl ?_
  refine rF3 ?_
  refine rt ?_
  exact ay 4 rfl rfl rfl Tryz.isAgg63 Tryz.sizeOf63 (by simp) (fun w hw => ⟨by rw [vU (Cr hc)], ah hw⟩)
 ·skip
  refine aA ?_
  refine pF3 ?_
  refine cG rfl (by simp) Tryz.underlying63 rfl Tryz.sizeOf25 zv63 rfl rfl ?_
  refine rF3 ?_
  refine rt ?_
  exact ay 4 rfl rfl rfl Tryz.isAgg63 Tryz.sizeOf63 (by simp) (fun w hw => ⟨by rw [sH (pX (o8 _ _ _) (Bj hc))], ah hw⟩)
theorem ml (a : Option Addr) (len cap : Nat) (bs : List (BitVec 8)) (hl : bs.length = len) (h : len ≤ 48) (w : World) (hw : Gt w) (hby : BytesAt w a bs) :
  Calls Tryz.prog 62 [.slice a len cap].toArray w (fun e w' => e = .returned (.tuple #[NV (FRs bs bs.length), .bool true]) ∧ Grow w w') := by
 subst hl
 exact (jN a cap bs w hw hby).mono fun e w' ⟨he, hg⟩ => ⟨by rw [he, if_neg (by omega)], hg⟩
structure QSt (w : World) (bs : List (BitVec 8)) where
 (k : Nat) (a : Option Addr) (c : Nat)
 hk : k ≤ bs.length
 hc : bs.length - k ≤ c
 hb : BytesAt w a (bs.drop k)
 hm : k = 0 ∨ (bs.length - k) % 48 = 0
theorem pC (y : Zr) : Pure Tryz.prog Gt 77 [NV LIFT, RV y, NV ML] (RV (y * qRZ)) := by
 have h := ft LIFT (nr y) ML rfl (e8 y) rfl
 rw [sK] at h
 exact h
theorem nv (bs : List (BitVec 8)) (h : bs.length ≤ 48) : Pure Tryz.prog Gt 78 [NV (FRs bs bs.length)] (RV (zr (BN bs bs.length))) := nL bs h ▸ qc (FRs bs bs.length) (aC _ _)
theorem dh (e : Option Addr) (cap : Nat) (bs : List (BitVec 8)) (hlen : bs.length ≤ 1000000) (hcap : bs.length ≤ cap) (w : World) (hw : Gt w) (hby : BytesAt w e bs) :
  Calls Tryz.prog 27 [.slice e bs.length cap].toArray w (fun r w' => r = .returned (RV (QB bs)) ∧ Grow w w') := by
 have hGF : BOk Gt (pl w) := gt_low.plain hw
 refine aE (G := Gt) Tryz.func27 rfl rfl (Hp (pl w) []) (aO (pl w) trivial ai) (ap hGF) ?_
 refine xp ?_
 refine la zv63 fun b2 => ?_
 refine aa ?_
 refine xp ?_
 refine la zv63 fun b3 => ?_
 refine aa ?_
 refine am ?_
 refine aj ?_
 refine cv (ι := QSt w bs) (fun x => [(0, .slice x.a (bs.length - x.k) x.c), (2, .pointer (some ⟨b2, 0, none⟩)), (3, .pointer (some ⟨b3, 0, none⟩))]) (fun x => [(2, b2, (List.replicate 6 0#64).map U64, 63), (3, b3, (nr (zr (BN bs x.k))).map U64, 63)]) (fun x => (bs.length - x.k)) ⟨0, e, cap, Nat.zero_le _, hcap, hby, .inl rfl⟩ hGF ⟨rfl, rfl, rfl, trivial⟩ ⟨rfl, by rw [BN, Di, nr_0]; rfl, trivial⟩ ?_
 intro x
 refine am ?_
 refine pF3 ?_
 refine bv rfl (fun _ => aK Tryz.underlying22 _ _ _ _) rfl rfl ?_
 refine ac rfl rfl (fun _ => rfl) (fun _ => bE _ _ _) rfl rfl ?_
 refine aa ?_
 refine bO rfl (fun hc => ?_) (fun hc => ?_)
 ·have hn : 0 < (bs.length - x.k) := by simp at hc; omega
  clear hc
  have hlenx := x.hk
  have hcut := sV hn
  have hnext : BytesAt w (if x.c = (((bs.length - x.k) - 1) % 48 + 1) then x.a else x.a.map (·.add ((((bs.length - x.k) - 1) % 48 + 1) * 1))) (bs.drop (x.k + (((bs.length - x.k) - 1) % 48 + 1))) := by
   have := x.hb.drop (cap := x.c) (l := (((bs.length - x.k) - 1) % 48 + 1)) (by rw [List.length_drop]; exact x.hc) (by omega)
   rw [List.drop_drop] at this
   exact this
  have hstep : zr (BN bs x.k) * qRZ + zr (BN ((bs.drop x.k).take (((bs.length - x.k) - 1) % 48 + 1)) ((bs.drop x.k).take (((bs.length - x.k) - 1) % 48 + 1)).length) = zr (BN bs (x.k + (((bs.length - x.k) - 1) % 48 + 1))) := by
   rw [gS bs x.k _ hcut.2.1, wW]
   exact qx bs x.k _ (gu id (y4 hn) x.hm)
  refine aA ?_
  refine aj ?_
  refine pF3 ?_
  refine bv rfl (fun _ => aK Tryz.underlying22 _ _ _ _) rfl rfl ?_
  refine ac (v := I (((bs.length - x.k) - 1 : Nat) : Int)) rfl rfl (fun _ => rfl) (fun _ => (bj _ _ _ (by unfold inI; omega)).trans (by rw [show ((bs.length - x.k : Nat) : Int) - 1 = ((bs.length - x.k - 1 : Nat) : Int) by omega])) rfl rfl ?_
  refine ac (v := I ((((bs.length - x.k) - 1) % 48 : Nat) : Int)) rfl rfl (fun _ => rfl) (fun _ => d9 _ _ _ (by decide)) rfl rfl ?_
  refine ac (v := I (((((bs.length - x.k) - 1) % 48 + 1) : Nat) : Int)) rfl rfl (fun _ => rfl) (fun _ => aL _ _ _ (by unfold inI; omega)) rfl rfl ?_
  refine rF3 ?_
  refine pF3 ?_
  refine qZ (l := 0) (h' := (((bs.length - x.k) - 1) % 48 + 1)) rfl Tryz.underlying22 Tryz.sizeOf5 rfl rfl ⟨Nat.zero_le _, Nat.le_trans hcut.2.1 x.hc⟩ rfl rfl ?_
  refine bk rfl rfl ent62 (fun w' hC hG => ml _ (((bs.length - x.k) - 1) % 48 + 1) _ ((bs.drop x.k).take (((bs.length - x.k) - 1) % 48 + 1)) (gS bs x.k _ hcut.2.1) hcut.2.2 w' hG ((x.hb.cut 0 (((bs.length - x.k) - 1) % 48 + 1) (by rw [List.length_drop]; exact x.hc)).grow (ah hC))) rfl rfl ?_
  refine rF3 ?_
  refine la zv25 fun b5 => ?_
  refine rF3 ?_
  refine bw (E := EE []) bq (by kernel_rfl) (by kernel_rfl) (by kernel_rfl) ?_
  refine fg hGF Tryz.isAgg25 Tryz.sizeOf25 (by simp) (fun _ h => h.g1) rfl rfl ?_
  refine rF3 ?_
  refine fg hGF Tryz.isAgg25 Tryz.sizeOf25 (by simp) (fun _ h => h.g2) rfl rfl ?_
  refine lc ent77 (pC _) ?_
  refine cG rfl (by simp) Tryz.underlying63 rfl Tryz.sizeOf25 zv63 rfl rfl ?_
  refine rF3 ?_
  refine aG rfl rfl ent78 (nv ((bs.drop x.k).take (((bs.length - x.k) - 1) % 48 + 1)) (by rw [gS bs x.k _ hcut.2.1]; exact hcut.2.2)) rfl rfl ?_
  refine lc ent36 (sk _ _) ?_
  refine rF3 ?_
  refine au (E := EE []) ?_
  refine rF3 ?_
  refine qZ (l := (((bs.length - x.k) - 1) % 48 + 1)) (h' := (bs.length - x.k)) rfl Tryz.underlying22 Tryz.sizeOf5 rfl rfl ⟨hcut.2.1, x.hc⟩ rfl rfl ?_
  refine rF3 ?_
  repeat (refine aQ ?_)
  refine bl ?_
  exact ⟨rfl, ⟨x.k + (((bs.length - x.k) - 1) % 48 + 1), _, x.c - (((bs.length - x.k) - 1) % 48 + 1), by have := x.hk; omega, by have := x.hc; omega, hnext, .inr (by rw [Nat.sub_add_eq]; exact hcut.1)⟩, _, by show bs.length - (x.k + (((bs.length - x.k) - 1) % 48 + 1)) < bs.length - x.k; omega, rfl, ⟨congrArg (fun n => some (Value.slice _ n _)) (Nat.sub_sub bs.length x.k (((bs.length - x.k) - 1) % 48 + 1)), rfl, rfl, trivial⟩, ⟨rfl, by rw [← hstep]; rfl, trivial⟩⟩
 ·have hn : x.k = bs.length := by simp at hc; have := x.hk; omega
  clear hc
  refine a8 ?_
  refine pF3 ?_
  refine rt ?_
  exact ay 2 rfl rfl rfl Tryz.isAgg63 Tryz.sizeOf63 (by simp) (fun w hw => ⟨by rw [hn]; rfl, ah hw⟩)
end
end Go.Proofs.YtpnpiblphnpfiaaGreatDoor
