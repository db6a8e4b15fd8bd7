/-
 The program's digits.
 The reference's digits; to the power of x; the sixth.
 The reference's sixth, the power of p, the long power; the laws' gone.
 The reference's value of a pair.
-/
import Derived.Test.YtpnpiblphnpfiaaGreatDoorXH
import Derived.Test.YtpnpiblphnpfiaaGreatDoorX3
import Derived.Test.YtpnpiblphnpfiaaGreatDoorX5
import Derived.Test.YtpnpiblphnpfiaaGreatDoorXA
set_option maxRecDepth 100000
set_option maxHeartbeats 1000000
namespace Go.Proofs.YtpnpiblphnpfiaaGreatDoor
section
open Go.RowKit
attribute [local simp] aY bj aF aA aL aW aM aK aO PLl cq cn N1l cm cp ck bd bk aX bg ba
theorem rTA {Q P : Prop} (k : Q) (h : Q → P := by intro k; (refine LY.run ?_); (repeat (first | refine bC rfl rfl rfl ?_ | refine a7 rfl rfl rfl ?_)); (first | refine bO ?_ | refine LY.mk ?_); exact k) : P := h k
theorem pTA {Q P : Prop} (k : Q) (h : Q → P := by intro k; (refine xp ?_); (refine rTA ?_); exact k) : P := h k
theorem ent159 : ae Tryz.prog 159 := fun _ _ => by kernel_rfl
theorem Ce : Pure Tryz.prog Gt 159 [U64 15132376222941642752#64] (I 64) := by
 refine aQ Tryz.func159 fun w hw hGF => ?_
 refine pTA ?_
 refine ao ?_
 refine pTA ?_
 refine cZ true rfl rfl (fun _ => rfl) (fun _ => dx _ _ _) (by decide) rfl rfl ?_
 refine aa ?_
 refine cb rfl ?_
 refine pTA ?_
 refine ab (v := U64 3523280896#64) rfl rfl (fun _ => rfl) (fun _ => (cx _ _ 32#64).trans (by rfl)) rfl rfl ?_
 refine rTA ?_
 refine aw (E := EE []) ?_
 refine rTA ?_
 refine ao ?_
 refine pTA ?_
 refine cZ true rfl rfl (fun _ => rfl) (fun _ => dx _ _ _) (by decide) rfl rfl ?_
 refine aa ?_
 refine cb rfl ?_
 refine pTA ?_
 refine ab (v := U64 53761#64) rfl rfl (fun _ => rfl) (fun _ => (cx _ _ 16#64).trans (by rfl)) rfl rfl ?_
 refine rTA ?_
 refine aw (E := EE []) ?_
 refine rTA ?_
 refine ab (v := I 48) rfl rfl (fun _ => rfl) (fun _ => (aC _ _ _ (by unfold inI; decide)).trans (by rfl)) rfl rfl ?_
 refine rTA ?_
 refine ao ?_
 refine pTA ?_
 refine cZ true rfl rfl (fun _ => rfl) (fun _ => dx _ _ _) (by decide) rfl rfl ?_
 refine aa ?_
 refine cb rfl ?_
 refine pTA ?_
 refine ab (v := U64 210#64) rfl rfl (fun _ => rfl) (fun _ => (cx _ _ 8#64).trans (by rfl)) rfl rfl ?_
 refine rTA ?_
 refine aw (E := EE []) ?_
 refine rTA ?_
 refine ab (v := I 56) rfl rfl (fun _ => rfl) (fun _ => (aC _ _ _ (by unfold inI; decide)).trans (by rfl)) rfl rfl ?_
 refine rTA ?_
 refine pTA ?_
 refine fX rfl rfl (fun _ => go Tryz.underlying24 Tryz.underlying5 _) rfl rfl ?_
 refine m4 (n := 8#8) rfl rfl Tryz.underlying9 (by decide) (by kernel_rfl) rfl rfl ?_
 refine fX rfl rfl (fun _ => tJ Tryz.underlying5 Tryz.underlying3 _) rfl rfl ?_
 refine ab (v := I 64) rfl rfl (fun _ => rfl) (fun _ => (aC _ _ _ (by unfold inI; decide)).trans (by rfl)) rfl rfl ?_
 refine rTA ?_
 refine rt ?_
 exact bh rfl rfl (fun w hw => ⟨rfl, ah hw⟩)
theorem qu : Pure Tryz.prog Gt 112 [] (.func (.func 158) #[] #[]) := by
 refine aQ Tryz.func112 fun w hw hGF => ?_
 refine pTA ?_
 refine pTA ?_
 refine rt ?_
 exact bh rfl rfl (fun w hw => ⟨rfl, ah hw⟩)
def DGb (k : Nat) : Bool := 15132376222941642752#64 >>> (62 - k) &&& 1#64 == 1#64
def D63 : List Bool := (List.range 63).map DGb
theorem gP : D63.length = 63 := by rw [D63, List.length_map, List.length_range]
theorem jQ {k : Nat} (h : k < 63) : D63[k]? = some (DGb k) := by rw [D63, List.getElem?_map, List.getElem?_range h]; rfl
def DGs : List (List Value) := D63.map fun d => [.bool d]
theorem gO : DGs.length = 63 := by rw [DGs, List.length_map, gP]
theorem s5 {k : Nat} (h : k < 63) : DGs[k]? = some [.bool (DGb k)] := by rw [DGs, List.getElem?_map, jQ h]; rfl
theorem mU {k : Nat} {v : List Value} (h : DGs[k]? = some v) : k < 63 ∧ v = [.bool (DGb k)] := by
 have hk : k < 63 := by
  rcases Nat.lt_or_ge k 63 with hk | hk
  ·exact hk
  ·rw [List.getElem?_eq_none (by rw [gO]; exact hk)] at h; cases h
 exact ⟨hk, (Option.some.inj ((s5 hk).symm.trans h)).symm⟩
theorem iz : jA Tryz.prog Gt 158 [] DGs (fun _ => True) := by
 intro l J Jx hJ hJx hRd hGx hY w hj
 have okJ : ∀ k, BOk Gt (Bi w (fun Y => J Y k)) := fun k => ⟨fun _ _ _ h => (hRd _ _ _ h.rid).1, hJ k⟩
 have okX : ∀ k, BOk Gt (Bi w (fun Y => Jx Y k)) := fun k => ⟨fun _ _ _ h => hGx _ _ _ h.rid, hJx k⟩
 refine aN (G := Gt) Tryz.func158 rfl rfl (Hp (Bi w (fun Y => J Y 0)) []) (a5 (Bi w _) hj (hJ 0)) (ay (okJ 0)) ?_
 refine xp ?_
 refine lc ent159 (Ce) ?_
 refine ab (v := I 62) rfl rfl (fun _ => rfl) (fun _ => (bF _ _ _ (by unfold inI; decide)).trans (by rfl)) rfl rfl ?_
 refine rTA ?_
 refine ap ?_
 refine gv (ι := { k : Nat // k ≤ 63 }) (fun x => [(0, .func (.yield l) #[] #[]), (2, I (62 - (x.1 : Int)))]) (fun x => Bi w (fun Y => J Y x.1)) (fun x => []) (fun x => 63 - x.1) ⟨0, Nat.zero_le _⟩ (fun _ => okJ _) rfl ⟨rfl, rfl, trivial⟩ trivial ?_
 rintro ⟨k, hk⟩
 dsimp only
 refine ao ?_
 refine pTA ?_
 refine ab (v := .bool (decide (k < 63))) rfl rfl (fun _ => rfl) (fun _ => (fE _ _ _).trans (by rw [show decide ((62 - (k : Int)) ≥ 0) = decide (k < 63) from decide_eq_decide.2 (by omega)])) rfl rfl ?_
 refine aa ?_
 refine bE rfl (fun hc => ?_) (fun hc => ?_)
 ·have hk2 : k < 63 := by simpa using hc
  refine aD ?_
  refine ao ?_
  refine ap ?_
  refine pTA ?_
  refine ab (v := U64 (15132376222941642752#64 >>> (62 - k))) rfl rfl (fun _ => rfl) (fun _ => (dk _ _ _ (by omega)).trans (by rw [show (62 - (k : Int)).toNat = 62 - k by omega])) rfl rfl ?_
  refine ab (v := U64 (15132376222941642752#64 >>> (62 - k) &&& 1#64)) rfl rfl (fun _ => rfl) (fun _ => dw _ _ 1#64) rfl rfl ?_
  refine ab (v := .bool (DGb k)) rfl rfl (fun _ => rfl) (fun _ => bp _ _ 1#64) rfl rfl ?_
  refine eQ (hY.b (k := k) (s5 hk2) w) (okJ _) (okX _) rfl rfl rfl rfl rfl ?_ ?_
  ·skip
   refine bR rfl (fun _ => bG _) rfl rfl ?_
   refine aa ?_
   refine bB rfl ?_
   refine aD ?_
   refine aw (E := EE []) ?_
   refine rTA ?_
   refine ab (v := I (62 - ((k + 1 : Nat) : Int))) rfl rfl (fun _ => rfl) (fun _ => (bF _ _ _ (by unfold inI; omega)).trans (by rw [show 62 - (k : Int) - 1 = 62 - ((k + 1 : Nat) : Int) by omega])) rfl rfl ?_
   refine rTA ?_
   repeat (refine aR ?_)
   refine bc ?_
   exact ⟨rfl, ⟨k + 1, by omega⟩, _, by show 63 - (k + 1) < 63 - k; omega, rfl, ⟨rfl, rfl, trivial⟩, trivial⟩
  ·skip
   refine bR rfl (fun _ => bG _) rfl rfl ?_
   refine aa ?_
   refine cb rfl ?_
   refine rt ?_
   repeat (first | refine dJ ?_ | refine ce ?_ | refine dP rfl ?_ | refine bn ?_ | refine bq ?_)
   exact ez rfl (fun w hw => ⟨⟨_, rfl⟩, .inr ⟨_, cH (hJx _) hw.rid⟩⟩)
 ·obtain rfl : k = 63 := by simp at hc; omega
  refine aZ ?_
  repeat (first | refine dJ ?_ | refine ce ?_ | refine dP rfl ?_ | refine bn ?_ | refine bq ?_)
  refine dS rfl (fun w hw => ⟨⟨_, rfl⟩, .inl ?_⟩)
  have := cH (hJ _) hw.rid
  rw [gO]
  exact this
end
section
open Go.RowKit
attribute [local simp] aY bj aF aA aL aW aM aK aO PLl cq cn N1l cm cp ck bd bk aX bg ba J1.br J2.br Q6.cg
theorem rTB {Q P : Prop} (k : Q) (h : Q → P := by intro k; (refine LY.run ?_); (repeat (first | refine bC rfl rfl rfl ?_ | refine a7 rfl rfl rfl ?_ | ((refine Af rfl rfl ?_ rfl rfl ?_); (· simp)) | ((refine uH hGF rfl rfl rfl ?_ ?_ (ak _) rfl ?_); (· simp); (· simp)) | refine bz (f := 72) rfl rfl ent72 (Eb _ _) rfl rfl ?_)); (first | refine bO ?_ | refine LY.mk ?_); exact k) : P := h k
theorem pTB {Q P : Prop} (k : Q) (h : Q → P := by intro k; (refine xp ?_); (refine rTB ?_); exact k) : P := h k
theorem ent119 : ae Tryz.prog 119 := fun _ _ => by kernel_rfl
theorem ent75 : ae Tryz.prog 75 := fun _ _ => by kernel_rfl
theorem ent137 : ae Tryz.prog 137 := fun _ _ => by kernel_rfl
theorem ent70 : ae Tryz.prog 70 := fun _ _ => by kernel_rfl
theorem ent74 : ae Tryz.prog 74 := fun _ _ => by kernel_rfl
theorem ent25 : ae Tryz.prog 25 := fun _ _ => by kernel_rfl
structure AppV (f : Nat → List Value) (e N : Nat) where
 (k : Nat) (a0 : Option Addr) (cap : Nat) (own : Hl)
 hk : k ≤ N
 hs : OwnV own 50 e a0 cap (f k)
def BLk (k : Nat) : List Value := (D63.take k).map .bool
theorem iu {k : Nat} (h : k ≤ 63) : (BLk k).length = k := by rw [BLk, List.length_map, List.length_take, gP]; omega
theorem uF {k : Nat} (h : k < 63) : BLk k ++ [.bool (DGb k)] = BLk (k + 1) := by
 rw [BLk, BLk, List.take_add_one, jQ h, List.map_append]; rfl
theorem Ae {k j : Nat} (hk : k ≤ 63) (h : j < k) : (BLk k)[j]? = some (.bool (DGb j)) := by
 rw [BLk, List.getElem?_map, List.getElem?_take, if_pos h, jQ (by omega)]; rfl
theorem ti4 : TI Tryz.prog 4 (.bool false) 1 1 := xU (by kernel_rfl)
theorem OwnV.skip {L : Hl} {n : Nat} {e : TypeId} {a0 : Option Addr} {cap : Nat} {xs : List Value} (h : OwnV L n e a0 cap xs) (m : Nat) {x : Nat × List Value × TypeId} (hm : Nat.beq m n = false) : OwnV ((m, x) :: L) n e a0 cap xs := by
 rcases h with h | ⟨b, c, h1, h2, h3⟩
 ·exact .inl h
 ·exact .inr ⟨b, c, h1, by show (bif Nat.beq m n then some x else lkB L n) = _; rw [hm]; exact h2, h3⟩
theorem ud (w : World) (hw : Gt w) : Calls Tryz.prog 119 [].toArray w (fun e w' => ∃ b c cap, e = .returned (.slice (some ⟨b, 0, none⟩) 63 cap) ∧ Grow w w' ∧ w.heap.size ≤ b ∧ OwnB w' b c 4 ∧ ∀ j, j < 63 → c[j]? = some (.bool (DGb j))) := by
 have hGF : BOk Gt (pl w) := gt_low.plain hw
 have fin : ∀ {L : Hl} {a0 : Option Addr} {cap : Nat} {w' : World}, OwnV L 50 4 a0 cap (BLk 63) → Hp (pl w) L w' → ∃ b c cap', Ending.returned (.slice a0 (BLk 63).length cap) = .returned (.slice (some ⟨b, 0, none⟩) 63 cap') ∧ Grow w w' ∧ w.heap.size ≤ b ∧ OwnB w' b c 4 ∧ ∀ j, j < 63 → c[j]? = some (.bool (DGb j)) := fun {L a0 cap w'} h hp => by
  rcases h with ⟨_, h, _⟩ | ⟨b, c, rfl, hl, hc, hle, ht⟩
  ·have e := iu (k := 63) (by omega); rw [h] at e; cases e
  ·refine ⟨b, c, cap, by rw [iu (by omega)], ah hp, (hp.own _ _ _ _ hl).2.elim id False.elim, (hp.own _ _ _ _ hl).1, fun j hj => ?_⟩
   have e := Ae (k := 63) (by omega) hj
   rw [← ht, iu (by omega), List.getElem?_take, if_pos hj] at e
   exact e
 refine aN (G := Gt) Tryz.func119 rfl rfl (Hp (pl w) []) (a5 (pl w) trivial aq) (ay hGF) ?_
 refine pTB ?_
 refine pTB ?_
 refine ao ?_
 refine pTB ?_
 refine ap ?_
 refine bL (ι := AppV BLk 4 63) (fun x => [(1, .slice x.a0 (BLk x.k).length x.cap), (2, I (62 - (x.k : Int)))]) (fun x => x.own) (fun x => 63 - x.k) ⟨0, none, 0, [], by omega, ov _ _ _⟩ hGF ⟨rfl, rfl, trivial⟩ trivial ?_
 rintro ⟨k, a0, cap, own, hk, hs⟩
 dsimp only at hs ⊢
 refine ao ?_
 refine pTB ?_
 refine ab (v := .bool (decide (k < 63))) rfl rfl (fun _ => rfl) (fun _ => (fE _ _ _).trans (by rw [show decide ((62 - (k : Int)) ≥ 0) = decide (k < 63) from decide_eq_decide.2 (by omega)])) rfl rfl ?_
 refine aa ?_
 refine bE rfl (fun hc => ?_) (fun hc => ?_)
 ·have hk2 : k < 63 := by simpa using hc
  refine aD ?_
  refine ao ?_
  refine ap ?_
  refine aw (E := EE []) ?_
  refine rTB ?_
  refine ab (v := U64 (15132376222941642752#64 >>> (62 - k))) rfl rfl (fun _ => rfl) (fun _ => (dk _ _ _ (by omega)).trans (by rw [show (62 - (k : Int)).toNat = 62 - k by omega])) rfl rfl ?_
  refine ab (v := U64 (15132376222941642752#64 >>> (62 - k) &&& 1#64)) rfl rfl (fun _ => rfl) (fun _ => dw _ _ 1#64) rfl rfl ?_
  refine ab (v := .bool (DGb k)) rfl rfl (fun _ => rfl) (fun _ => bp _ _ 1#64) rfl rfl ?_
  refine r9 12 [.bool (DGb k)] hGF rfl rfl rfl (by decide) (by decide) Tryz.underlying145 Tryz.sizeOf4 Tryz.zeroValue4 rfl rfl rfl ?_
  intro b12
  refine ki (xs := BLk k) (ys := [.bool (DGb k)]) 50 hGF rfl rfl Tryz.underlying145 Tryz.underlying145 ti4 rfl (hs.skip 12 rfl) (fun w' h => cB (n := 12) rfl w' h) rfl (by simp) (by rw [iu hk]; show (k + 1) * 1 ≤ _; omega) (by rw [iu hk]; show k + 1 ≤ _; omega) rfl rfl (fun bA cA capA eA lA tA => ?_)
  subst eA
  rw [uF hk2] at lA tA ⊢
  refine rTB ?_
  refine aw (E := EE []) ?_
  refine rTB ?_
  refine ab (v := I (62 - ((k + 1 : Nat) : Int))) rfl rfl (fun _ => rfl) (fun _ => (bF _ _ _ (by unfold inI; omega)).trans (by rw [show 62 - (k : Int) - 1 = 62 - ((k + 1 : Nat) : Int) by omega])) rfl rfl ?_
  refine rTB ?_
  repeat (refine aR ?_)
  refine bc ?_
  exact ⟨rfl, ⟨k + 1, some ⟨bA, 0, none⟩, _, [(50, bA, cA, 4)], by omega, .inr ⟨bA, cA, rfl, rfl, rfl, lA, tA⟩⟩, _, by show 63 - (k + 1) < 63 - k; omega, rfl, ⟨rfl, rfl, trivial⟩, ⟨rfl, trivial⟩⟩
 ·obtain rfl : k = 63 := by simp at hc; omega
  refine aZ ?_
  refine pTB ?_
  refine rt ?_
  exact bh rfl rfl (fun w' hw' => fin hs hw')
def pwD (x : W12) (k : Nat) : W12 := K12.pw x (cJ (D63.take k) 1)
theorem kG {k : Nat} (h : k < 63) : D63.take (k + 1) = D63.take k ++ [DGb k] := by rw [List.take_add_one, jQ h]; rfl
theorem xP (x : W12) {k : Nat} (h : k < 63) (hd : DGb k = true) : K12.mul (K12.mul (pwD x k) (pwD x k)) x = pwD x (k + 1) := by
 rw [pwD, pwD, kG h, fF, hd, ← K12.pw_add, ← Nat.two_mul]; rfl
theorem uO (x : W12) {k : Nat} (h : k < 63) (hd : DGb k = false) : K12.mul (pwD x k) (pwD x k) = pwD x (k + 1) := by
 rw [pwD, pwD, kG h, fF, hd, ← K12.pw_add, ← Nat.two_mul]; rfl
theorem AQ : D63 = L63 := by decide +kernel
theorem vv (x : W12) : pwD x 63 = K12.pw x UG := by rw [pwD, List.take_of_length_le (by rw [gP]; exact Nat.le_refl _), AQ, BP]
namespace Q6
theorem sh (x : W12) : Pure Tryz.prog Gt 75 [TT x] (TT (tnd UG x)) := by
 refine aQ Tryz.func75 fun w hw hGF => ?_
 refine ac (E := EE [119]) ?_
 refine lb fun b1 => ?_
 refine la zv44 fun b2 => ?_
 refine aa ?_
 refine ac (E := EE [119]) ?_
 refine rTB ?_
 refine la zv44 fun b3 => ?_
 refine rTB ?_
 refine ac (E := EE [119]) ?_
 refine cw rfl rfl ent119 rfl rfl (fun w' hw' => (ud w' (hGF.g _ _ _ hw')).mono fun e' w'' h => ?_)
 obtain ⟨bD, cD, capD, rfl, hg, hbD, hoD, hcD⟩ := h
 refine ⟨_, _, rfl, ay hGF, hw'.news aq hg [(50, bD, cD, 4)] ?_ dp, ?_⟩
 ·intro n' b' c' t' hl
  rcases bl hl with ⟨_, e⟩ | ⟨_, hl⟩
  ·cases e; exact ⟨hbD, hoD⟩
  ·cases hl
 clear hw' hg hbD hoD
 refine rTB ?_
 refine ao ?_
 refine ac (E := EE [119]) ?_
 refine rTB ?_
 refine ap ?_
 refine bL (ι := { k : Nat // k ≤ 63 }) (fun y => [(1, .pointer (some ⟨b1, 0, none⟩)), (2, .pointer (some ⟨b2, 0, none⟩)), (3, .pointer (some ⟨b3, 0, none⟩)), (4, .slice (some ⟨bD, 0, none⟩) 63 capD), (5, I (y.1 : Int))]) (fun y => [(1, b1, (FM (FF (p12 (x))) 6).map U64, 44), (2, b2, (FM (FF fun _ => ze2) 6).map U64, 44), (3, b3, (FM (FF (p12 (pwD x y.1))) 6).map U64, 44), (50, bD, cD, 4)]) (fun y => 63 - y.1) ⟨0, by omega⟩ hGF ⟨rfl, rfl, rfl, rfl, rfl, trivial⟩ ⟨rfl, rfl, by rw [show pwD x 0 = x from K12.pw_one x]; rfl, rfl, trivial⟩ ?_
 rintro ⟨k, hk⟩
 dsimp only
 refine ao ?_
 refine ac (E := EE [119]) ?_
 refine rTB ?_
 refine bV rfl (fun _ => bi Tryz.underlying145 _ _ _ _) rfl rfl ?_
 refine ab rfl rfl (fun _ => rfl) (fun _ => aH _ _ _) rfl rfl ?_
 refine aa ?_
 refine bE rfl (fun hc => ?_) (fun hc => ?_)
 ·have hk2 : k < 63 := by simp at hc; omega
  refine aD ?_
  refine ao ?_
  refine ap ?_
  refine ac (E := EE [119]) ?_
  refine rTB ?_
  refine ac (E := EE [119]) ?_
  refine rTB ?_
  refine wJ k rfl rfl Tryz.underlying145 Tryz.sizeOf4 (by omega) (by omega) rfl rfl ?_
  refine cP (v := .bool (DGb k)) rfl Tryz.isAgg4 (fun w' h => cz (n := 50) rfl (by rw [Nat.zero_add]; exact hcD k (by omega)) w' h) rfl rfl ?_
  refine aa ?_
  refine bE rfl (fun hc => ?_) (fun hc => ?_)
  ·skip
   refine aw (E := EE [119]) ?_
   refine rTB ?_
   refine aw (E := EE [119]) ?_
   refine rTB ?_
   refine ab rfl rfl (fun _ => rfl) (fun _ => aC _ _ _ (by unfold inI; omega)) rfl rfl ?_
   refine rTB ?_
   repeat (refine aR ?_)
   refine bc ?_
   exact ⟨rfl, ⟨k + 1, by omega⟩, _, by show 63 - (k + 1) < 63 - k; omega, rfl, ⟨rfl, rfl, rfl, rfl, rfl, trivial⟩, ⟨rfl, rfl, by rw [← xP x hk2 hc]; rfl, rfl, trivial⟩⟩
  ·skip
   refine aD ?_
   refine aw (E := EE [119]) ?_
   refine rTB ?_
   refine ab rfl rfl (fun _ => rfl) (fun _ => aC _ _ _ (by unfold inI; omega)) rfl rfl ?_
   refine rTB ?_
   repeat (refine aR ?_)
   refine bc ?_
   exact ⟨rfl, ⟨k + 1, by omega⟩, _, by show 63 - (k + 1) < 63 - k; omega, rfl, ⟨rfl, rfl, rfl, rfl, rfl, trivial⟩, ⟨rfl, rfl, by rw [← uO x hk2 hc]; rfl, rfl, trivial⟩⟩
 ·obtain rfl : k = 63 := by simp at hc; omega
  refine aZ ?_
  refine ac (E := EE [119]) ?_
  refine rTB ?_
  refine lc ent71 (wx _) ?_
  refine rTB ?_
  refine rt ?_
  exact av 2 rfl rfl rfl Tryz.isAgg44 Tryz.sizeOf44 (by simp) (fun w hw => ⟨by rw [tnd, ← vv], ah hw⟩)
def TO233 : Tb Tryz.prog Gt := TO232.add (fN (g := fun x => tnd UG x) ent75 sh)
end Q6
end
section
open Go.RowKit
attribute [local simp] aY bj aF aA aL aW aM aK aO PLl cq cn N1l cm cp ck bd bk aX bg ba J1.br J2.br Q6.cg
theorem rTC {Q P : Prop} (k : Q) (h : Q → P := by intro k; (refine LY.run ?_); (repeat (first | refine bC rfl rfl rfl ?_ | refine a7 rfl rfl rfl ?_ | ((refine Af rfl rfl ?_ rfl rfl ?_); (· simp)) | ((refine CL rfl rfl ?_ rfl rfl ?_); (· simp)) | ((refine uH hGF rfl rfl rfl ?_ ?_ (ak _) rfl ?_); (· simp); (· simp)) | ((refine vu hGF rfl rfl rfl ?_ ?_ (ak _) rfl ?_); (· simp); (· simp)) | refine bz (f := 72) rfl rfl ent72 (Eb _ _) rfl rfl ?_ | refine bz (f := 75) rfl rfl ent75 (sh _) rfl rfl ?_ | refine bz (f := 71) rfl rfl ent71 (wx _) rfl rfl ?_)); (first | refine bO ?_ | refine LY.mk ?_); exact k) : P := h k
theorem pTC {Q P : Prop} (k : Q) (h : Q → P := by intro k; (refine xp ?_); (refine rTC ?_); exact k) : P := h k
def dgt (c : BitVec 8) : BitVec 8 := if 97#8 ≤ c then c - 97#8 + 10#8 else c - 48#8
theorem oR (c : BitVec 8) : Pure Tryz.prog Gt 137 [U8 c] (U8 (dgt c)) := by
 intro w hw
 have hGF : BOk Gt (pl w) := gt_low.plain hw
 by_cases h : 97#8 ≤ c
 ·rw [show dgt c = _ from if_pos h]
  refine aN (G := Gt) Tryz.func137 rfl rfl (Hp (pl w) []) (a5 (pl w) trivial aq) (ay hGF) ?_
  refine pTC ?_
  refine ao ?_
  refine pTC ?_
  refine cZ true rfl rfl (fun _ => rfl) (fun _ => kB _ _ 97#8) (decide_eq_true h) rfl rfl ?_
  refine aa ?_
  refine cb rfl ?_
  refine pTC ?_
  refine ab rfl rfl (fun _ => rfl) (fun _ => kX _ _ _) rfl rfl ?_
  refine ab rfl rfl (fun _ => rfl) (fun _ => qV _ _ _) rfl rfl ?_
  refine rTC ?_
  refine rt ?_
  exact bh rfl rfl (fun w hw => ⟨rfl, ah hw⟩)
 ·rw [show dgt c = _ from if_neg h]
  refine aN (G := Gt) Tryz.func137 rfl rfl (Hp (pl w) []) (a5 (pl w) trivial aq) (ay hGF) ?_
  refine pTC ?_
  refine ao ?_
  refine pTC ?_
  refine cZ false rfl rfl (fun _ => rfl) (fun _ => kB _ _ 97#8) (decide_eq_false h) rfl rfl ?_
  refine aa ?_
  refine bB rfl ?_
  refine aD ?_
  refine pTC ?_
  refine ab rfl rfl (fun _ => rfl) (fun _ => kX _ _ _) rfl rfl ?_
  refine rTC ?_
  refine rt ?_
  exact bh rfl rfl (fun w hw => ⟨rfl, ah hw⟩)
def HXL : List UInt8 := List.append [48, 52, 53, 53, 56, 50, 102, 99, 53, 101, 101, 97, 97, 54, 54, 102, 48, 99, 56, 52, 57, 98, 102, 51, 98, 53, 101, 49, 102, 50, 50, 51, 101, 54, 49, 51, 101, 49, 101, 98, 55, 100, 101, 98, 56, 51, 49, 102] [101, 54, 56, 56, 50, 51, 49, 97, 100, 51, 99, 56, 50, 57, 48, 54, 48, 53, 49, 99, 97, 97, 97, 97, 55, 50, 101, 51, 53, 53, 53, 53, 52, 57, 97, 97, 55, 102, 102, 102, 102, 102, 102, 102, 102, 49, 99, 55]
def HX : List (BitVec 8) := [48#8, 52#8, 53#8, 53#8, 56#8, 50#8, 102#8, 99#8, 53#8, 101#8, 101#8, 97#8, 97#8, 54#8, 54#8, 102#8, 48#8, 99#8, 56#8, 52#8, 57#8, 98#8, 102#8, 51#8, 98#8, 53#8, 101#8, 49#8, 102#8, 50#8, 50#8, 51#8, 101#8, 54#8, 49#8, 51#8, 101#8, 49#8, 101#8, 98#8, 55#8, 100#8, 101#8, 98#8, 56#8, 51#8, 49#8, 102#8, 101#8, 54#8, 56#8, 56#8, 50#8, 51#8, 49#8, 97#8, 100#8, 51#8, 99#8, 56#8, 50#8, 57#8, 48#8, 54#8, 48#8, 53#8, 49#8, 99#8, 97#8, 97#8, 97#8, 97#8, 55#8, 50#8, 101#8, 51#8, 53#8, 53#8, 53#8, 53#8, 52#8, 57#8, 97#8, 97#8, 55#8, 102#8, 102#8, 102#8, 102#8, 102#8, 102#8, 102#8, 102#8, 49#8, 99#8, 55#8]
def SIX : List (BitVec 8) := [4#8, 85#8, 130#8, 252#8, 94#8, 234#8, 166#8, 111#8, 12#8, 132#8, 155#8, 243#8, 181#8, 225#8, 242#8, 35#8, 230#8, 19#8, 225#8, 235#8, 125#8, 235#8, 131#8, 31#8, 230#8, 136#8, 35#8, 26#8, 211#8, 200#8, 41#8, 6#8, 5#8, 28#8, 170#8, 170#8, 114#8, 227#8, 85#8, 85#8, 73#8, 170#8, 127#8, 255#8, 255#8, 255#8, 241#8, 199#8]
theorem DI : ∀ i : Fin 96, HXL.toArray[i.val]? = some (UInt8.ofBitVec (HX.getD i.val 0)) := by decide +kernel
theorem AV {i : Nat} {z : Int} (hz : z = (i : Int)) (h : i < 96) : HXL.toArray[z.toNat]? = some (UInt8.ofBitVec (HX.getD i 0)) := by
 subst hz
 rw [Int.toNat_natCast]; exact DI ⟨i, h⟩
theorem yZ : ∀ k : Fin 48, dgt (HX.getD (2 * k.val) 0) <<< (4#64).toNat ||| dgt (HX.getD (2 * k.val + 1) 0) = SIX.getD k.val 0 := by decide +kernel
theorem Dp {k : Nat} (h : k < 48) : dgt (HX.getD (2 * k) 0) <<< (4#64).toNat ||| dgt (HX.getD (2 * k + 1) 0) = SIX.getD k 0 := yZ ⟨k, h⟩
theorem GC : BN SIX 48 = sx := by decide +kernel
def SXk (k : Nat) : List Value := (SIX.take k).map U8
theorem io {k : Nat} (h : k ≤ 48) : (SXk k).length = k := by rw [SXk, List.length_map, List.length_take, show SIX.length = 48 from rfl]; omega
theorem w9 {k : Nat} (h : k < 48) : SXk k ++ [U8 (SIX.getD k 0)] = SXk (k + 1) := by
 rw [SXk, SXk, List.take_add_one, List.getD_eq_getElem?_getD, List.getElem?_eq_getElem (show k < SIX.length from h), List.map_append]; rfl
theorem CE : SXk 48 = SIX.map U8 := rfl
theorem ti5s : TI Tryz.prog 5 (.int .u8 0) 1 1 := xU (by kernel_rfl)
theorem uT (w : World) (hw : Gt w) : Calls Tryz.prog 70 [].toArray w (fun e w' => ∃ b c cap, e = .returned (.slice (some ⟨b, 0, none⟩) 48 cap) ∧ Grow w w' ∧ w.heap.size ≤ b ∧ OwnB w' b c 5 ∧ c.take SIX.length = SIX.map U8) := by
 have hGF : BOk Gt (pl w) := gt_low.plain hw
 have fin : ∀ {L : Hl} {a0 : Option Addr} {cap : Nat} {w' : World}, OwnV L 50 5 a0 cap (SXk 48) → Hp (pl w) L w' → ∃ b c cap', Ending.returned (.slice a0 (SXk 48).length cap) = .returned (.slice (some ⟨b, 0, none⟩) 48 cap') ∧ Grow w w' ∧ w.heap.size ≤ b ∧ OwnB w' b c 5 ∧ c.take SIX.length = SIX.map U8 := fun {L a0 cap w'} h hp => by
  rcases h with ⟨_, h, _⟩ | ⟨b, c, rfl, hl, hc, hle, ht⟩
  ·have e := io (k := 48) (by omega); rw [h] at e; cases e
  ·refine ⟨b, c, cap, by rw [io (by omega)], ah hp, (hp.own _ _ _ _ hl).2.elim id False.elim, (hp.own _ _ _ _ hl).1, ?_⟩
   rw [io (by omega), CE] at ht
   exact ht
 refine aN (G := Gt) Tryz.func70 rfl rfl (Hp (pl w) []) (a5 (pl w) trivial aq) (ay hGF) ?_
 refine pTC ?_
 refine pTC ?_
 refine ao ?_
 refine pTC ?_
 refine ap ?_
 refine bL (ι := AppV SXk 5 48) (fun x => [(1, .slice x.a0 (SXk x.k).length x.cap), (2, I ((2 * x.k : Nat) : Int))]) (fun x => x.own) (fun x => 48 - x.k) ⟨0, none, 0, [], by omega, ov _ _ _⟩ hGF ⟨rfl, rfl, trivial⟩ trivial ?_
 rintro ⟨k, a0, cap, own, hk, hs⟩
 dsimp only at hs ⊢
 refine ao ?_
 refine pTC ?_
 refine ab (v := .bool (decide (k < 48))) rfl rfl (fun _ => rfl) (fun _ => (aH _ _ _).trans (by rw [show decide (((2 * k : Nat) : Int) < 96) = decide (k < 48) from decide_eq_decide.2 (by omega)])) rfl rfl ?_
 refine aa ?_
 refine bE rfl (fun hc => ?_) (fun hc => ?_)
 ·have hk2 : k < 48 := by simpa using hc
  refine aD ?_
  refine ao ?_
  refine ap ?_
  refine ci (E := EE []) a9 (by kernel_rfl) (by kernel_rfl) (by kernel_rfl) ?_
  refine rTC ?_
  refine m4 (n := HX.getD (2 * k) 0) rfl rfl Tryz.underlying9 (by omega) (AV (i := 2 * k) (rfl) (by omega)) rfl rfl ?_
  refine lc ent137 (oR _) ?_
  refine ab (v := U8 (dgt (HX.getD (2 * k) 0) <<< (4#64).toNat)) rfl rfl (fun _ => rfl) (fun _ => q9 _ _ 4#64) rfl rfl ?_
  refine rTC ?_
  refine ab (v := I (((2 * k : Nat) : Int) + 1)) rfl rfl (fun _ => rfl) (fun _ => aC _ _ _ (by unfold inI; omega)) rfl rfl ?_
  refine m4 (n := HX.getD (2 * k + 1) 0) rfl rfl Tryz.underlying9 (by omega) (AV (i := 2 * k + 1) (by omega) (by omega)) rfl rfl ?_
  refine lc ent137 (oR _) ?_
  refine ab (v := U8 (SIX.getD k 0)) rfl rfl (fun _ => rfl) (fun _ => (tO _ _ _).trans (by rw [Dp hk2])) rfl rfl ?_
  refine r9 17 [U8 (SIX.getD k 0)] hGF rfl rfl rfl (by decide) (by decide) Tryz.underlying22 Tryz.sizeOf5 Tryz.zeroValue5 rfl rfl rfl ?_
  intro b17
  refine ki (xs := SXk k) (ys := [U8 (SIX.getD k 0)]) 50 hGF rfl rfl Tryz.underlying22 Tryz.underlying22 ti5s rfl (hs.skip 17 rfl) (fun w' h => cB (n := 17) rfl w' h) rfl (by simp) (by rw [io hk]; show (k + 1) * 1 ≤ _; omega) (by rw [io hk]; show k + 1 ≤ _; omega) rfl rfl (fun bA cA capA eA lA tA => ?_)
  subst eA
  rw [w9 hk2] at lA tA ⊢
  refine rTC ?_
  refine aw (E := EE []) ?_
  refine rTC ?_
  refine ab (v := I ((2 * (k + 1) : Nat) : Int)) rfl rfl (fun _ => rfl) (fun _ => (aC _ _ _ (by unfold inI; omega)).trans (by rw [show ((2 * k : Nat) : Int) + 2 = ((2 * (k + 1) : Nat) : Int) by omega])) rfl rfl ?_
  refine rTC ?_
  repeat (refine aR ?_)
  refine bc ?_
  exact ⟨rfl, ⟨k + 1, some ⟨bA, 0, none⟩, _, [(50, bA, cA, 5)], by omega, .inr ⟨bA, cA, rfl, rfl, rfl, lA, tA⟩⟩, _, by show 48 - (k + 1) < 48 - k; omega, rfl, ⟨rfl, rfl, trivial⟩, ⟨rfl, trivial⟩⟩
 ·obtain rfl : k = 48 := by simp at hc; omega
  refine aZ ?_
  refine pTC ?_
  refine rt ?_
  exact bh rfl rfl (fun w' hw' => fin hs hw')
namespace Q6
def frJ (c : W2) (x : W12) (j : Nat) : W2 := ml2 (cj2 (p12 x j)) (pw2 c j)
def frG (c : W2) (x : W12) : W12 := tq (frJ c x)
theorem k8 (x : W12) : frG GA x = bT x := rfl
theorem DD (x : W12) (c : W2) : Pure Tryz.prog Gt 74 [TT x, EV2 c] (TV (frJ c x)) := by
 refine aQ Tryz.func74 fun w hw hGF => ?_
 refine xp ?_
 refine lb fun b2 => ?_
 refine lb fun b3 => ?_
 refine la zv44 fun b4 => ?_
 refine aa ?_
 refine xp ?_
 refine lc ent124 (xD) ?_
 refine la zv42 fun b5 => ?_
 refine rTC ?_
 refine ao ?_
 refine pTC ?_
 refine ap ?_
 refine bL (ι := { i : Nat // i ≤ 6 }) (fun y => [(2, .pointer (some ⟨b2, 0, none⟩)), (3, .pointer (some ⟨b3, 0, none⟩)), (4, .pointer (some ⟨b4, 0, none⟩)), (5, .pointer (some ⟨b5, 0, none⟩)), (6, I (y.1 : Int))]) (fun y => [(2, b2, (FM (FF (fun j => if j < y.1 then frJ c x j else p12 x j)) 6).map U64, 44), (3, b3, (fe (c).1 ++ fe (c).2).map U64, 42), (4, b4, (FM (FF fun _ => ze2) 6).map U64, 44), (5, b5, (fe (pw2 c y.1).1 ++ fe (pw2 c y.1).2).map U64, 42)]) (fun y => 6 - y.1) ⟨0, by omega⟩ hGF ⟨rfl, rfl, rfl, rfl, rfl, trivial⟩ ⟨congrArg (fun l => some (b2, l, _)) (congrArg (List.map U64) (dX fun j _ => (if_neg (Nat.not_lt_zero j)).symm)), rfl, rfl, rfl, trivial⟩ ?_
 rintro ⟨i, hi⟩
 dsimp only
 refine ao ?_
 refine pTC ?_
 refine ab rfl rfl (fun _ => rfl) (fun _ => aH _ _ _) rfl rfl ?_
 refine aa ?_
 refine bE rfl (fun hc => ?_) (fun hc => ?_)
 ·simp only [decide_eq_true_eq] at hc
  refine aD ?_
  refine ao ?_
  refine ap ?_
  refine bx (E := EE []) a9 (by kernel_rfl) (by kernel_rfl) (by kernel_rfl) ?_
  refine rTC ?_
  refine bJ (i) (12 * (i)) rfl rfl Tryz.underlying44 Tryz.sizeOf42 (by omega) (by omega) (by omega) rfl rfl ?_
  refine aT 2 ((fe (p12 x i).1 ++ fe (p12 x i).2).map U64) rfl rfl Tryz.isAgg42 Tryz.sizeOf42 (by simp) (bY _ (p12 x i) 6 (i) _ (by omega) rfl (oh (frJ c x) (p12 x) i)) rfl rfl ?_
  refine lc ent142 (vP _) ?_
  refine rTC ?_
  refine aE rfl rfl ent136 (mo (cj2 (p12 x i)) (pw2 c i)) rfl rfl ?_
  refine bJ (i) (12 * (i)) rfl rfl Tryz.underlying44 Tryz.sizeOf42 (by omega) (by omega) (by omega) rfl rfl ?_
  refine db 2 ((FM (FF (fun j => if j < i + 1 then frJ c x j else p12 x j)) 6).map U64) hGF rfl rfl rfl Tryz.sizeOf42 (by simp) (ak _) (by simp; omega) (ff _ _ (ml2 (cj2 (p12 x i)) (pw2 c i)) 6 (i) _ (by omega) rfl (fun j _ => ji (frJ c x) (p12 x) i j)) rfl ?_
  refine aa ?_
  refine aw (E := EE []) ?_
  refine rTC ?_
  refine aE rfl rfl ent136 (mo (pw2 c i) c) rfl rfl ?_
  refine rTC ?_
  refine aw (E := EE []) ?_
  refine rTC ?_
  refine ab rfl rfl (fun _ => rfl) (fun _ => aC _ _ _ (by unfold inI; omega)) rfl rfl ?_
  refine rTC ?_
  repeat (refine aR ?_)
  refine bc ?_
  exact ⟨rfl, ⟨i + 1, by omega⟩, _, by show 6 - (i + 1) < 6 - i; omega, rfl, ⟨rfl, rfl, rfl, rfl, rfl, trivial⟩, ⟨rfl, rfl, rfl, rfl, trivial⟩⟩
 ·obtain rfl : i = 6 := by simp at hc; omega
  refine aZ ?_
  refine pTC ?_
  refine rt ?_
  exact av 4 rfl rfl rfl Tryz.isAgg44 Tryz.sizeOf44 (by simp) (fun w hw => ⟨rT fun j hj => if_pos hj, ah hw⟩)
theorem mt (x : W12) (c : W2) : Pure Tryz.prog Gt 74 [TT x, EV2 c] (TT (frG c x)) := by rw [← s7 (f := frJ c x) (x := frG c x) rfl]; exact DD x c
theorem jK {f : Nat} {g : W12 → W2 → W12} (en : ae Tryz.prog f) (h : ∀ a b, Pure Tryz.prog Gt f [TT a, EV2 b] (TT (g a b))) : Snd Tryz.prog Gt f (c2 qT.ag q2.ag qT.rd g) := dv qT.ag q2.ag qT.rd en (fun a b => a8 (l2 (VT _).symm rfl) (VT _).symm (h a b))
def TO234 : Tb Tryz.prog Gt := TO233.add (jK (g := fun x c => frG c x) ent74 mt)
def fj2 (c : W2) (x : W12) : W12 := K12.mul (frG c (frG c x)) x
def fj4 (c : W2) (x : W12) : W12 := K12.mul (tnd UG x) (frG c x)
def fj5 (c : W2) (x : W12) : W12 := K12.mul (K12.mul (tnd UG (tnd UG x)) (frG c (frG c x))) (bw x)
def fj6 (c : W2) (x : W12) : W12 := K12.mul (K12.mul (K12.mul (fj5 c (fj4 c (fi3 UG (fi3 UG x)))) x) x) x
def Co (c : W2) (x : W12) : W12 := fj6 c (fj2 c (fi1 x))
theorem Ft (x : W12) : fj2 GA x = fi2 x := by rw [fj2, k8, k8, fi2]
theorem EQ (x : W12) : fj4 GA x = fi4 UG x := by rw [fj4, k8, fi4]
theorem F6 (x : W12) : fj5 GA x = fi5 UG x := by rw [fj5, k8, k8, fi5]
theorem F2 (x : W12) : fj6 GA x = fi6 UG x := by rw [fj6, F6, EQ, fi6]
theorem yB (x : W12) : Co GA x = hH UG x := by rw [Co, F2, Ft, hH]
theorem zH (x : W12) (s c : W2) (hS : Pure Tryz.prog Gt 68 [U64 1#64, U64 1#64] (EV2 s)) (hP : ∀ (b : Nat) (d : List Value) (cap : Nat) (w' : World), Gt w' → w'.rangeAt b 0 d → d.take SIX.length = SIX.map U8 → Calls Tryz.prog 69 [EV2 s, .slice (some ⟨b, 0, none⟩) 48 cap].toArray w' (fun r w'' => r = .returned (EV2 c) ∧ Grow w' w'')) : Pure Tryz.prog Gt 25 [TT x] (TT (Co c x)) := by
 refine aQ Tryz.func25 fun w hw hGF => ?_
 refine ac (E := EE [70]) ?_
 refine lb fun b1 => ?_
 refine la zv44 fun b2 => ?_
 refine aa ?_
 refine ac (E := EE [70]) ?_
 refine lc ent68 (hS) ?_
 refine cw rfl rfl ent70 rfl rfl (fun w' hw' => (uT w' (hGF.g _ _ _ hw')).mono fun e' w'' h => ?_)
 obtain ⟨bD, cD, capD, rfl, hg, hbD, hoD, hcD⟩ := h
 refine ⟨_, _, rfl, ay hGF, hw'.news aq hg [(50, bD, cD, 5)] ?_ dp, ?_⟩
 ·intro n' b' c' t' hl
  rcases bl hl with ⟨_, e⟩ | ⟨_, hl⟩
  ·cases e; exact ⟨hbD, hoD⟩
  ·cases hl
 clear hw' hg hbD hoD
 refine bS rfl rfl ent69 (fun w' hC hG => hP bD cD capD w' hG (cB (n := 50) rfl w' hC) hcD) rfl rfl ?_
 refine la zv42 fun b3 => ?_
 refine rTC ?_
 refine bx (E := EE [70]) a9 (by kernel_rfl) (by kernel_rfl) (by kernel_rfl) ?_
 refine rTC ?_
 refine lc ent73 (Hz _) ?_
 refine rTC ?_
 refine bx (E := EE [70]) a9 (by kernel_rfl) (by kernel_rfl) (by kernel_rfl) ?_
 refine rTC ?_
 refine lc ent74 (mt _ _) ?_
 refine rTC ?_
 refine lc ent74 (mt _ _) ?_
 refine rTC ?_
 refine bv (E := EE [70, 2999999]) [0, 1, 2, 3, 4] [⟨5, 4, 44, (FM (FF fun _ => ze2) 6).map U64⟩] [6] a9 rfl (by kernel_rfl) (by kernel_rfl) (by kernel_rfl) (by kernel_rfl) (by kernel_rfl) (by kernel_rfl) (by decide) (by intro x hx; simp only [List.mem_cons, List.not_mem_nil, or_false] at hx; subst hx; exact a6 rfl zv44 rfl) ?_
 refine rTC ?_
 refine ⟨_, _, rfl, hGF, by intro x hx; simp only [List.mem_cons, List.not_mem_nil, or_false] at hx; subst hx; rfl, by intro x hx; simp only [List.mem_cons, List.not_mem_nil, or_false] at hx; subst hx; rfl, fun adr => ?_⟩
 refine rTC ?_
 refine bx (E := EE [70]) a9 (by kernel_rfl) (by kernel_rfl) (by kernel_rfl) ?_
 refine rTC ?_
 refine bv (E := EE [70, 2999999]) [0, 1, 2, 3, 4, 5] [⟨6, 5, 44, (FM (FF fun _ => ze2) 6).map U64⟩] [7] a9 rfl (by kernel_rfl) (by kernel_rfl) (by kernel_rfl) (by kernel_rfl) (by kernel_rfl) (by kernel_rfl) (by decide) (by intro x hx; simp only [List.mem_cons, List.not_mem_nil, or_false] at hx; subst hx; exact a6 rfl zv44 rfl) ?_
 refine rTC ?_
 refine lc ent74 (mt _ _) ?_
 refine rTC ?_
 refine ⟨_, _, rfl, hGF, by intro x hx; simp only [List.mem_cons, List.not_mem_nil, or_false] at hx; subst hx; rfl, by intro x hx; simp only [List.mem_cons, List.not_mem_nil, or_false] at hx; subst hx; rfl, fun adr => ?_⟩
 refine rTC ?_
 refine bv (E := EE [70, 2999999]) [0, 1, 2, 3, 4, 5, 6, 7, 8, 9, 10, 11] [⟨12, 6, 44, (FM (FF fun _ => ze2) 6).map U64⟩] [13] a9 rfl (by kernel_rfl) (by kernel_rfl) (by kernel_rfl) (by kernel_rfl) (by kernel_rfl) (by kernel_rfl) (by decide) (by intro x hx; simp only [List.mem_cons, List.not_mem_nil, or_false] at hx; subst hx; exact a6 rfl zv44 rfl) ?_
 refine rTC ?_
 refine lc ent74 (mt _ _) ?_
 refine rTC ?_
 refine lc ent74 (mt _ _) ?_
 refine rTC ?_
 refine ⟨_, _, rfl, hGF, by intro x hx; simp only [List.mem_cons, List.not_mem_nil, or_false] at hx; subst hx; rfl, by intro x hx; simp only [List.mem_cons, List.not_mem_nil, or_false] at hx; subst hx; rfl, fun adr => ?_⟩
 refine rTC ?_
 refine bx (E := EE [70]) a9 (by kernel_rfl) (by kernel_rfl) (by kernel_rfl) ?_
 refine rTC ?_
 refine rt ?_
 exact av 2 rfl rfl rfl Tryz.isAgg44 Tryz.sizeOf44 (by simp) (fun w hw => ⟨rfl, ah hw⟩)
theorem sm11 : sm2 1#64 1#64 = XI := by decide +kernel
theorem qh {w : World} {b : Nat} {c : List Value} {bs : List (BitVec 8)} (h : w.rangeAt b 0 c) (ht : c.take bs.length = bs.map U8) : BytesAt w (some ⟨b, 0, none⟩) bs := BytesAt.range fun j v hv => h j v (by
 rw [← ht, List.getElem?_take] at hv
 split at hv
 ·exact hv
 ·cases hv)
theorem zT (b : Nat) (d : List Value) (cap : Nat) (w : World) (hw : Gt w) (h : w.rangeAt b 0 d) (hd : d.take SIX.length = SIX.map U8) : Calls Tryz.prog 69 [EV2 XI, .slice (some ⟨b, 0, none⟩) 48 cap].toArray w (fun r w' => r = .returned (EV2 GA) ∧ Grow w w') := by
 have k := n4 XI (some ⟨b, 0, none⟩) cap SIX (by decide) w hw (qh h hd)
 rw [show SIX.length = 48 from rfl, GC] at k
 exact k
theorem CN (x : W12) : Pure Tryz.prog Gt 25 [TT x] (TT (hH UG x)) := by rw [← yB]; exact zH x XI GA (sm11 ▸ tf 1#64 1#64) zT
def TO235 : Tb Tryz.prog Gt := TO234.add (fN (g := fun x => hH UG x) ent25 CN)
end Q6
end
section
open Go.RowKit
attribute [local simp] aY bj aF aA aL aW aM aK aO PLl cq cn N1l cm cp ck bd bk aX bg ba J1.br J2.br Q6.cg
namespace Q6
/-! ### Of points of the groups -/
theorem mM (k : Nat) (hk : k ≤ 63) : 0 < cJ (D63.take k) 1 ∧ cJ (D63.take k) 1 < 2 ^ (k + 1) := by
 refine ⟨jk _ _ Nat.one_pos, ?_⟩
 have h := lm (D63.take k) 1
 rw [List.length_take, gP, Nat.min_eq_left hk] at h
 rw [Nat.pow_succ]
 omega
theorem D3 {k : Nat} (hk : k < 63) : 2 * cJ (D63.take k) 1 + 1 < ORD := by
 have h := (mM k (by omega)).2
 have h2 : 2 ^ (k + 1) ≤ 2 ^ 63 := Nat.pow_le_pow_right (by omega) (by omega)
 have h3 : 2 * 2 ^ 63 + 1 < ORD := by decide +kernel
 omega
end Q6
end
end Go.Proofs.YtpnpiblphnpfiaaGreatDoor
