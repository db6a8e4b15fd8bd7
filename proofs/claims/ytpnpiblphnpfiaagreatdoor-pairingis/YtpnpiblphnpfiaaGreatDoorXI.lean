/-
 The program's digits.
 The reference's digits; to the power of x; the sixth.
 The reference's sixth, the power of p, the long power; the laws' gone.
 The reference's value of a pair.
-/
import Derived.Test.YtpnpiblphnpfiaaGreatDoorXH
import Derived.Test.YtpnpiblphnpfiaaGreatDoorX3
import Derived.Test.YtpnpiblphnpfiaaGreatDoorX5
import Derived.Test.YtpnpiblphnpfiaaGreatDoorXA
set_option maxRecDepth 100000
set_option maxHeartbeats 1000000
namespace Go.Proofs.YtpnpiblphnpfiaaGreatDoor
section
open Go.RowKit
attribute [local simp] a8 bt aI aC aR a6 aQ aM aW PLl cH cJ N1l cI cL cM bq bv a7 br bh
theorem rTA {Q P : Prop} (k : Q) (h : Q → P := by intro k; (refine LY.run ?_); (repeat (first | refine bH rfl rfl rfl ?_ | refine bd rfl rfl rfl ?_)); (first | refine bY ?_ | refine LY.mk ?_); exact k) : P := h k
theorem pTA {Q P : Prop} (k : Q) (h : Q → P := by intro k; (refine xp ?_); (refine rTA ?_); exact k) : P := h k
theorem ent159 : ae Tryz.prog 159 := fun _ _ => by kernel_rfl
theorem Dq : Pure Tryz.prog Gt 159 [U64 15132376222941642752#64] (I 64) := by
 refine aN Tryz.func159 fun w hw hGF => ?_
 refine pTA ?_
 refine am ?_
 refine pTA ?_
 refine bK true rfl rfl (fun _ => rfl) (fun _ => dH _ _ _) (by decide) rfl rfl ?_
 refine aa ?_
 refine bL rfl ?_
 refine pTA ?_
 refine ab (v := U64 3523280896#64) rfl rfl (fun _ => rfl) (fun _ => (cC _ _ 32#64).trans (by rfl)) rfl rfl ?_
 refine rTA ?_
 refine au (E := EE []) ?_
 refine rTA ?_
 refine am ?_
 refine pTA ?_
 refine bK true rfl rfl (fun _ => rfl) (fun _ => dH _ _ _) (by decide) rfl rfl ?_
 refine aa ?_
 refine bL rfl ?_
 refine pTA ?_
 refine ab (v := U64 53761#64) rfl rfl (fun _ => rfl) (fun _ => (cC _ _ 16#64).trans (by rfl)) rfl rfl ?_
 refine rTA ?_
 refine au (E := EE []) ?_
 refine rTA ?_
 refine ab (v := I 48) rfl rfl (fun _ => rfl) (fun _ => (aA _ _ _ (by unfold inI; decide)).trans (by rfl)) rfl rfl ?_
 refine rTA ?_
 refine am ?_
 refine pTA ?_
 refine bK true rfl rfl (fun _ => rfl) (fun _ => dH _ _ _) (by decide) rfl rfl ?_
 refine aa ?_
 refine bL rfl ?_
 refine pTA ?_
 refine ab (v := U64 210#64) rfl rfl (fun _ => rfl) (fun _ => (cC _ _ 8#64).trans (by rfl)) rfl rfl ?_
 refine rTA ?_
 refine au (E := EE []) ?_
 refine rTA ?_
 refine ab (v := I 56) rfl rfl (fun _ => rfl) (fun _ => (aA _ _ _ (by unfold inI; decide)).trans (by rfl)) rfl rfl ?_
 refine rTA ?_
 refine pTA ?_
 refine fN rfl rfl (fun _ => gC Tryz.underlying24 Tryz.underlying5 _) rfl rfl ?_
 refine nf (n := 8#8) rfl rfl Tryz.underlying9 (by decide) (by kernel_rfl) rfl rfl ?_
 refine fN rfl rfl (fun _ => tc Tryz.underlying5 Tryz.underlying3 _) rfl rfl ?_
 refine ab (v := I 64) rfl rfl (fun _ => rfl) (fun _ => (aA _ _ _ (by unfold inI; decide)).trans (by rfl)) rfl rfl ?_
 refine rTA ?_
 refine rt ?_
 exact bg rfl rfl (fun w hw => ⟨rfl, ah hw⟩)
theorem qI : Pure Tryz.prog Gt 112 [] (.func (.func 158) #[] #[]) := by
 refine aN Tryz.func112 fun w hw hGF => ?_
 refine pTA ?_
 refine pTA ?_
 refine rt ?_
 exact bg rfl rfl (fun w hw => ⟨rfl, ah hw⟩)
def DGb (k : Nat) : Bool := 15132376222941642752#64 >>> (62 - k) &&& 1#64 == 1#64
def D63 : List Bool := (List.range 63).map DGb
theorem f4 : D63.length = 63 := by rw [D63, List.length_map, List.length_range]
theorem jO {k : Nat} (h : k < 63) : D63[k]? = some (DGb k) := by rw [D63, List.getElem?_map, List.getElem?_range h]; rfl
def DGs : List (List Value) := D63.map fun d => [.bool d]
theorem gK : DGs.length = 63 := by rw [DGs, List.length_map, f4]
theorem rc {k : Nat} (h : k < 63) : DGs[k]? = some [.bool (DGb k)] := by rw [DGs, List.getElem?_map, jO h]; rfl
theorem nh {k : Nat} {v : List Value} (h : DGs[k]? = some v) : k < 63 ∧ v = [.bool (DGb k)] := by
 have hk : k < 63 := by
  rcases Nat.lt_or_ge k 63 with hk | hk
  ·exact hk
  ·rw [List.getElem?_eq_none (by rw [gK]; exact hk)] at h; cases h
 exact ⟨hk, (Option.some.inj ((rc hk).symm.trans h)).symm⟩
theorem il : gh Tryz.prog Gt 158 [] DGs (fun _ => True) := by
 intro l J Jx hJ hJx hRd hGx hY w hj
 have okJ : ∀ k, BOk Gt (Bi w (fun Y => J Y k)) := fun k => ⟨fun _ _ _ h => (hRd _ _ _ h.rid).1, hJ k⟩
 have okX : ∀ k, BOk Gt (Bi w (fun Y => Jx Y k)) := fun k => ⟨fun _ _ _ h => hGx _ _ _ h.rid, hJx k⟩
 refine aF (G := Gt) Tryz.func158 rfl rfl (Hp (Bi w (fun Y => J Y 0)) []) (aP (Bi w _) hj (hJ 0)) (aw (okJ 0)) ?_
 refine xp ?_
 refine lc ent159 (Dq) ?_
 refine ab (v := I 62) rfl rfl (fun _ => rfl) (fun _ => (bk _ _ _ (by unfold inI; decide)).trans (by rfl)) rfl rfl ?_
 refine rTA ?_
 refine ao ?_
 refine fj (ι := { k : Nat // k ≤ 63 }) (fun x => [(0, .func (.yield l) #[] #[]), (2, I (62 - (x.1 : Int)))]) (fun x => Bi w (fun Y => J Y x.1)) (fun x => []) (fun x => 63 - x.1) ⟨0, Nat.zero_le _⟩ (fun _ => okJ _) rfl ⟨rfl, rfl, trivial⟩ trivial ?_
 rintro ⟨k, hk⟩
 dsimp only
 refine am ?_
 refine pTA ?_
 refine ab (v := .bool (decide (k < 63))) rfl rfl (fun _ => rfl) (fun _ => (dg _ _ _).trans (by rw [show decide ((62 - (k : Int)) ≥ 0) = decide (k < 63) from decide_eq_decide.2 (by omega)])) rfl rfl ?_
 refine aa ?_
 refine bF rfl (fun hc => ?_) (fun hc => ?_)
 ·have hk2 : k < 63 := by simpa using hc
  refine aB ?_
  refine am ?_
  refine ao ?_
  refine pTA ?_
  refine ab (v := U64 (15132376222941642752#64 >>> (62 - k))) rfl rfl (fun _ => rfl) (fun _ => (du _ _ _ (by omega)).trans (by rw [show (62 - (k : Int)).toNat = 62 - k by omega])) rfl rfl ?_
  refine ab (v := U64 (15132376222941642752#64 >>> (62 - k) &&& 1#64)) rfl rfl (fun _ => rfl) (fun _ => dz _ _ 1#64) rfl rfl ?_
  refine ab (v := .bool (DGb k)) rfl rfl (fun _ => rfl) (fun _ => bx _ _ 1#64) rfl rfl ?_
  refine ef (hY.b (k := k) (rc hk2) w) (okJ _) (okX _) rfl rfl rfl rfl rfl ?_ ?_
  ·skip
   refine bJ rfl (fun _ => bu _) rfl rfl ?_
   refine aa ?_
   refine ba rfl ?_
   refine aB ?_
   refine au (E := EE []) ?_
   refine rTA ?_
   refine ab (v := I (62 - ((k + 1 : Nat) : Int))) rfl rfl (fun _ => rfl) (fun _ => (bk _ _ _ (by unfold inI; omega)).trans (by rw [show 62 - (k : Int) - 1 = 62 - ((k + 1 : Nat) : Int) by omega])) rfl rfl ?_
   refine rTA ?_
   repeat (refine aL ?_)
   refine aZ ?_
   exact ⟨rfl, ⟨k + 1, by omega⟩, _, by show 63 - (k + 1) < 63 - k; omega, rfl, ⟨rfl, rfl, trivial⟩, trivial⟩
  ·skip
   refine bJ rfl (fun _ => bu _) rfl rfl ?_
   refine aa ?_
   refine bL rfl ?_
   refine rt ?_
   repeat (first | refine dw ?_ | refine ce ?_ | refine dx rfl ?_ | refine bl ?_ | refine bn ?_)
   exact dX rfl (fun w hw => ⟨⟨_, rfl⟩, .inr ⟨_, cn (hJx _) hw.rid⟩⟩)
 ·obtain rfl : k = 63 := by simp at hc; omega
  refine aV ?_
  repeat (first | refine dw ?_ | refine ce ?_ | refine dx rfl ?_ | refine bl ?_ | refine bn ?_)
  refine dC rfl (fun w hw => ⟨⟨_, rfl⟩, .inl ?_⟩)
  have := cn (hJ _) hw.rid
  rw [gK]
  exact this
end
section
open Go.RowKit
attribute [local simp] a8 bt aI aC aR a6 aQ aM aW PLl cH cJ N1l cI cL cM bq bv a7 br bh J1.bG J2.bG Q6.cR
theorem rTB {Q P : Prop} (k : Q) (h : Q → P := by intro k; (refine LY.run ?_); (repeat (first | refine bH rfl rfl rfl ?_ | refine bd rfl rfl rfl ?_ | ((refine vw rfl rfl ?_ rfl rfl ?_); (· simp)) | ((refine tz hGF rfl rfl rfl ?_ ?_ (ak _) rfl ?_); (· simp); (· simp)) | refine bw (f := 72) rfl rfl ent72 (zg _ _) rfl rfl ?_)); (first | refine bY ?_ | refine LY.mk ?_); exact k) : P := h k
theorem pTB {Q P : Prop} (k : Q) (h : Q → P := by intro k; (refine xp ?_); (refine rTB ?_); exact k) : P := h k
theorem ent119 : ae Tryz.prog 119 := fun _ _ => by kernel_rfl
theorem ent75 : ae Tryz.prog 75 := fun _ _ => by kernel_rfl
theorem ent137 : ae Tryz.prog 137 := fun _ _ => by kernel_rfl
theorem ent70 : ae Tryz.prog 70 := fun _ _ => by kernel_rfl
theorem ent74 : ae Tryz.prog 74 := fun _ _ => by kernel_rfl
theorem ent25 : ae Tryz.prog 25 := fun _ _ => by kernel_rfl
theorem ent56 : ae Tryz.prog 56 := fun _ _ => by kernel_rfl
structure AppV (f : Nat → List Value) (e N : Nat) where
 (k : Nat) (a0 : Option Addr) (cap : Nat) (own : Hl)
 hk : k ≤ N
 hs : OwnV own 50 e a0 cap (f k)
def BLk (k : Nat) : List Value := (D63.take k).map .bool
theorem iI {k : Nat} (h : k ≤ 63) : (BLk k).length = k := by rw [BLk, List.length_map, List.length_take, f4]; omega
theorem vY {k : Nat} (h : k < 63) : BLk k ++ [.bool (DGb k)] = BLk (k + 1) := by
 rw [BLk, BLk, List.take_add_one, jO h, List.map_append]; rfl
theorem zx {k j : Nat} (hk : k ≤ 63) (h : j < k) : (BLk k)[j]? = some (.bool (DGb j)) := by
 rw [BLk, List.getElem?_map, List.getElem?_take, if_pos h, jO (by omega)]; rfl
theorem ti4 : TI Tryz.prog 4 (.bool false) 1 1 := ut (by kernel_rfl)
theorem OwnV.skip {L : Hl} {n : Nat} {e : TypeId} {a0 : Option Addr} {cap : Nat} {xs : List Value} (h : OwnV L n e a0 cap xs) (m : Nat) {x : Nat × List Value × TypeId} (hm : Nat.beq m n = false) : OwnV ((m, x) :: L) n e a0 cap xs := by
 rcases h with h | ⟨b, c, h1, h2, h3⟩
 ·exact .inl h
 ·exact .inr ⟨b, c, h1, by show (bif Nat.beq m n then some x else lkB L n) = _; rw [hm]; exact h2, h3⟩
theorem ma (w : World) (hw : Gt w) : Calls Tryz.prog 119 [].toArray w (fun e w' => ∃ b c cap, e = .returned (.slice (some ⟨b, 0, none⟩) 63 cap) ∧ Grow w w' ∧ w.heap.size ≤ b ∧ OwnB w' b c 4 ∧ ∀ j, j < 63 → c[j]? = some (.bool (DGb j))) := by
 have hGF : BOk Gt (pl w) := gt_low.plain hw
 have fin : ∀ {L : Hl} {a0 : Option Addr} {cap : Nat} {w' : World}, OwnV L 50 4 a0 cap (BLk 63) → Hp (pl w) L w' → ∃ b c cap', Ending.returned (.slice a0 (BLk 63).length cap) = .returned (.slice (some ⟨b, 0, none⟩) 63 cap') ∧ Grow w w' ∧ w.heap.size ≤ b ∧ OwnB w' b c 4 ∧ ∀ j, j < 63 → c[j]? = some (.bool (DGb j)) := fun {L a0 cap w'} h hp => by
  rcases h with ⟨_, h, _⟩ | ⟨b, c, rfl, hl, hc, hle, ht⟩
  ·have e := iI (k := 63) (by omega); rw [h] at e; cases e
  ·refine ⟨b, c, cap, by rw [iI (by omega)], ah hp, (hp.own _ _ _ _ hl).2.elim id False.elim, (hp.own _ _ _ _ hl).1, fun j hj => ?_⟩
   have e := zx (k := 63) (by omega) hj
   rw [← ht, iI (by omega), List.getElem?_take, if_pos hj] at e
   exact e
 refine aF (G := Gt) Tryz.func119 rfl rfl (Hp (pl w) []) (aP (pl w) trivial ap) (aw hGF) ?_
 refine pTB ?_
 refine pTB ?_
 refine am ?_
 refine pTB ?_
 refine ao ?_
 refine bO (ι := AppV BLk 4 63) (fun x => [(1, .slice x.a0 (BLk x.k).length x.cap), (2, I (62 - (x.k : Int)))]) (fun x => x.own) (fun x => 63 - x.k) ⟨0, none, 0, [], by omega, oQ _ _ _⟩ hGF ⟨rfl, rfl, trivial⟩ trivial ?_
 rintro ⟨k, a0, cap, own, hk, hs⟩
 dsimp only at hs ⊢
 refine am ?_
 refine pTB ?_
 refine ab (v := .bool (decide (k < 63))) rfl rfl (fun _ => rfl) (fun _ => (dg _ _ _).trans (by rw [show decide ((62 - (k : Int)) ≥ 0) = decide (k < 63) from decide_eq_decide.2 (by omega)])) rfl rfl ?_
 refine aa ?_
 refine bF rfl (fun hc => ?_) (fun hc => ?_)
 ·have hk2 : k < 63 := by simpa using hc
  refine aB ?_
  refine am ?_
  refine ao ?_
  refine au (E := EE []) ?_
  refine rTB ?_
  refine ab (v := U64 (15132376222941642752#64 >>> (62 - k))) rfl rfl (fun _ => rfl) (fun _ => (du _ _ _ (by omega)).trans (by rw [show (62 - (k : Int)).toNat = 62 - k by omega])) rfl rfl ?_
  refine ab (v := U64 (15132376222941642752#64 >>> (62 - k) &&& 1#64)) rfl rfl (fun _ => rfl) (fun _ => dz _ _ 1#64) rfl rfl ?_
  refine ab (v := .bool (DGb k)) rfl rfl (fun _ => rfl) (fun _ => bx _ _ 1#64) rfl rfl ?_
  refine sn 12 [.bool (DGb k)] hGF rfl rfl rfl (by decide) (by decide) Tryz.underlying145 Tryz.sizeOf4 Tryz.zeroValue4 rfl rfl rfl ?_
  intro b12
  refine kw (xs := BLk k) (ys := [.bool (DGb k)]) 50 hGF rfl rfl Tryz.underlying145 Tryz.underlying145 ti4 rfl (hs.skip 12 rfl) (fun w' h => cN (n := 12) rfl w' h) rfl (by simp) (by rw [iI hk]; show (k + 1) * 1 ≤ _; omega) (by rw [iI hk]; show k + 1 ≤ _; omega) rfl rfl (fun bA cA capA eA lA tA => ?_)
  subst eA
  rw [vY hk2] at lA tA ⊢
  refine rTB ?_
  refine au (E := EE []) ?_
  refine rTB ?_
  refine ab (v := I (62 - ((k + 1 : Nat) : Int))) rfl rfl (fun _ => rfl) (fun _ => (bk _ _ _ (by unfold inI; omega)).trans (by rw [show 62 - (k : Int) - 1 = 62 - ((k + 1 : Nat) : Int) by omega])) rfl rfl ?_
  refine rTB ?_
  repeat (refine aL ?_)
  refine aZ ?_
  exact ⟨rfl, ⟨k + 1, some ⟨bA, 0, none⟩, _, [(50, bA, cA, 4)], by omega, .inr ⟨bA, cA, rfl, rfl, rfl, lA, tA⟩⟩, _, by show 63 - (k + 1) < 63 - k; omega, rfl, ⟨rfl, rfl, trivial⟩, ⟨rfl, trivial⟩⟩
 ·obtain rfl : k = 63 := by simp at hc; omega
  refine aV ?_
  refine pTB ?_
  refine rt ?_
  exact bg rfl rfl (fun w' hw' => fin hs hw')
def pwD (x : W12) (k : Nat) : W12 := K12.pw x (cG (D63.take k) 1)
theorem iP {k : Nat} (h : k < 63) : D63.take (k + 1) = D63.take k ++ [DGb k] := by rw [List.take_add_one, jO h]; rfl
theorem vh (x : W12) {k : Nat} (h : k < 63) (hd : DGb k = true) : K12.mul (K12.mul (pwD x k) (pwD x k)) x = pwD x (k + 1) := by
 rw [pwD, pwD, iP h, eD, hd, ← K12.pw_add, ← Nat.two_mul]; rfl
theorem wc (x : W12) {k : Nat} (h : k < 63) (hd : DGb k = false) : K12.mul (pwD x k) (pwD x k) = pwD x (k + 1) := by
 rw [pwD, pwD, iP h, eD, hd, ← K12.pw_add, ← Nat.two_mul]; rfl
theorem uT : D63 = L63 := by decide +kernel
theorem uX (x : W12) : pwD x 63 = K12.pw x UG := by rw [pwD, List.take_of_length_le (by rw [f4]; exact Nat.le_refl _), uT, AH]
namespace Q6
theorem si (x : W12) : Pure Tryz.prog Gt 75 [TT x] (TT (tnd UG x)) := by
 refine aN Tryz.func75 fun w hw hGF => ?_
 refine ac (E := EE [119]) ?_
 refine lb fun b1 => ?_
 refine la zv44 fun b2 => ?_
 refine aa ?_
 refine ac (E := EE [119]) ?_
 refine rTB ?_
 refine la zv44 fun b3 => ?_
 refine rTB ?_
 refine ac (E := EE [119]) ?_
 refine cy rfl rfl ent119 rfl rfl (fun w' hw' => (ma w' (hGF.g _ _ _ hw')).mono fun e' w'' h => ?_)
 obtain ⟨bD, cD, capD, rfl, hg, hbD, hoD, hcD⟩ := h
 refine ⟨_, _, rfl, aw hGF, hw'.news ap hg [(50, bD, cD, 4)] ?_ dj, ?_⟩
 ·intro n' b' c' t' hl
  rcases bp hl with ⟨_, e⟩ | ⟨_, hl⟩
  ·cases e; exact ⟨hbD, hoD⟩
  ·cases hl
 clear hw' hg hbD hoD
 refine rTB ?_
 refine am ?_
 refine ac (E := EE [119]) ?_
 refine rTB ?_
 refine ao ?_
 refine bO (ι := { k : Nat // k ≤ 63 }) (fun y => [(1, .pointer (some ⟨b1, 0, none⟩)), (2, .pointer (some ⟨b2, 0, none⟩)), (3, .pointer (some ⟨b3, 0, none⟩)), (4, .slice (some ⟨bD, 0, none⟩) 63 capD), (5, I (y.1 : Int))]) (fun y => [(1, b1, (FM (FF (p12 (x))) 6).map U64, 44), (2, b2, (FM (FF fun _ => ze2) 6).map U64, 44), (3, b3, (FM (FF (p12 (pwD x y.1))) 6).map U64, 44), (50, bD, cD, 4)]) (fun y => 63 - y.1) ⟨0, by omega⟩ hGF ⟨rfl, rfl, rfl, rfl, rfl, trivial⟩ ⟨rfl, rfl, by rw [show pwD x 0 = x from K12.pw_one x]; rfl, rfl, trivial⟩ ?_
 rintro ⟨k, hk⟩
 dsimp only
 refine am ?_
 refine ac (E := EE [119]) ?_
 refine rTB ?_
 refine bI rfl (fun _ => aY Tryz.underlying145 _ _ _ _) rfl rfl ?_
 refine ab rfl rfl (fun _ => rfl) (fun _ => aH _ _ _) rfl rfl ?_
 refine aa ?_
 refine bF rfl (fun hc => ?_) (fun hc => ?_)
 ·have hk2 : k < 63 := by simp at hc; omega
  refine aB ?_
  refine am ?_
  refine ao ?_
  refine ac (E := EE [119]) ?_
  refine rTB ?_
  refine ac (E := EE [119]) ?_
  refine rTB ?_
  refine ql k rfl rfl Tryz.underlying145 Tryz.sizeOf4 (by omega) (by omega) rfl rfl ?_
  refine ck (v := .bool (DGb k)) rfl Tryz.isAgg4 (fun w' h => ci (n := 50) rfl (by rw [Nat.zero_add]; exact hcD k (by omega)) w' h) rfl rfl ?_
  refine aa ?_
  refine bF rfl (fun hc => ?_) (fun hc => ?_)
  ·skip
   refine au (E := EE [119]) ?_
   refine rTB ?_
   refine au (E := EE [119]) ?_
   refine rTB ?_
   refine ab rfl rfl (fun _ => rfl) (fun _ => aA _ _ _ (by unfold inI; omega)) rfl rfl ?_
   refine rTB ?_
   repeat (refine aL ?_)
   refine aZ ?_
   exact ⟨rfl, ⟨k + 1, by omega⟩, _, by show 63 - (k + 1) < 63 - k; omega, rfl, ⟨rfl, rfl, rfl, rfl, rfl, trivial⟩, ⟨rfl, rfl, by rw [← vh x hk2 hc]; rfl, rfl, trivial⟩⟩
  ·skip
   refine aB ?_
   refine au (E := EE [119]) ?_
   refine rTB ?_
   refine ab rfl rfl (fun _ => rfl) (fun _ => aA _ _ _ (by unfold inI; omega)) rfl rfl ?_
   refine rTB ?_
   repeat (refine aL ?_)
   refine aZ ?_
   exact ⟨rfl, ⟨k + 1, by omega⟩, _, by show 63 - (k + 1) < 63 - k; omega, rfl, ⟨rfl, rfl, rfl, rfl, rfl, trivial⟩, ⟨rfl, rfl, by rw [← wc x hk2 hc]; rfl, rfl, trivial⟩⟩
 ·obtain rfl : k = 63 := by simp at hc; omega
  refine aV ?_
  refine ac (E := EE [119]) ?_
  refine rTB ?_
  refine lc ent71 (sw _) ?_
  refine rTB ?_
  refine rt ?_
  exact av 2 rfl rfl rfl Tryz.isAgg44 Tryz.sizeOf44 (by simp) (fun w hw => ⟨by rw [tnd, ← uX], ah hw⟩)
def TO233 : Tb Tryz.prog Gt := TO232.add (fI (g := fun x => tnd UG x) ent75 si)
end Q6
end
section
open Go.RowKit
attribute [local simp] a8 bt aI aC aR a6 aQ aM aW PLl cH cJ N1l cI cL cM bq bv a7 br bh J1.bG J2.bG Q6.cR
theorem rTC {Q P : Prop} (k : Q) (h : Q → P := by intro k; (refine LY.run ?_); (repeat (first | refine bH rfl rfl rfl ?_ | refine bd rfl rfl rfl ?_ | ((refine vw rfl rfl ?_ rfl rfl ?_); (· simp)) | ((refine zZ rfl rfl ?_ rfl rfl ?_); (· simp)) | ((refine tz hGF rfl rfl rfl ?_ ?_ (ak _) rfl ?_); (· simp); (· simp)) | ((refine tD hGF rfl rfl rfl ?_ ?_ (ak _) rfl ?_); (· simp); (· simp)) | refine bw (f := 72) rfl rfl ent72 (zg _ _) rfl rfl ?_ | refine bw (f := 75) rfl rfl ent75 (si _) rfl rfl ?_ | refine bw (f := 71) rfl rfl ent71 (sw _) rfl rfl ?_)); (first | refine bY ?_ | refine LY.mk ?_); exact k) : P := h k
theorem pTC {Q P : Prop} (k : Q) (h : Q → P := by intro k; (refine xp ?_); (refine rTC ?_); exact k) : P := h k
def dgt (c : BitVec 8) : BitVec 8 := if 97#8 ≤ c then c - 97#8 + 10#8 else c - 48#8
theorem oZ (c : BitVec 8) : Pure Tryz.prog Gt 137 [U8 c] (U8 (dgt c)) := by
 intro w hw
 have hGF : BOk Gt (pl w) := gt_low.plain hw
 by_cases h : 97#8 ≤ c
 ·rw [show dgt c = _ from if_pos h]
  refine aF (G := Gt) Tryz.func137 rfl rfl (Hp (pl w) []) (aP (pl w) trivial ap) (aw hGF) ?_
  refine pTC ?_
  refine am ?_
  refine pTC ?_
  refine bK true rfl rfl (fun _ => rfl) (fun _ => lp _ _ 97#8) (decide_eq_true h) rfl rfl ?_
  refine aa ?_
  refine bL rfl ?_
  refine pTC ?_
  refine ab rfl rfl (fun _ => rfl) (fun _ => lC _ _ _) rfl rfl ?_
  refine ab rfl rfl (fun _ => rfl) (fun _ => qk _ _ _) rfl rfl ?_
  refine rTC ?_
  refine rt ?_
  exact bg rfl rfl (fun w hw => ⟨rfl, ah hw⟩)
 ·rw [show dgt c = _ from if_neg h]
  refine aF (G := Gt) Tryz.func137 rfl rfl (Hp (pl w) []) (aP (pl w) trivial ap) (aw hGF) ?_
  refine pTC ?_
  refine am ?_
  refine pTC ?_
  refine bK false rfl rfl (fun _ => rfl) (fun _ => lp _ _ 97#8) (decide_eq_false h) rfl rfl ?_
  refine aa ?_
  refine ba rfl ?_
  refine aB ?_
  refine pTC ?_
  refine ab rfl rfl (fun _ => rfl) (fun _ => lC _ _ _) rfl rfl ?_
  refine rTC ?_
  refine rt ?_
  exact bg rfl rfl (fun w hw => ⟨rfl, ah hw⟩)
def HXL : List UInt8 := List.append [48, 52, 53, 53, 56, 50, 102, 99, 53, 101, 101, 97, 97, 54, 54, 102, 48, 99, 56, 52, 57, 98, 102, 51, 98, 53, 101, 49, 102, 50, 50, 51, 101, 54, 49, 51, 101, 49, 101, 98, 55, 100, 101, 98, 56, 51, 49, 102] [101, 54, 56, 56, 50, 51, 49, 97, 100, 51, 99, 56, 50, 57, 48, 54, 48, 53, 49, 99, 97, 97, 97, 97, 55, 50, 101, 51, 53, 53, 53, 53, 52, 57, 97, 97, 55, 102, 102, 102, 102, 102, 102, 102, 102, 49, 99, 55]
def HX : List (BitVec 8) := [48#8, 52#8, 53#8, 53#8, 56#8, 50#8, 102#8, 99#8, 53#8, 101#8, 101#8, 97#8, 97#8, 54#8, 54#8, 102#8, 48#8, 99#8, 56#8, 52#8, 57#8, 98#8, 102#8, 51#8, 98#8, 53#8, 101#8, 49#8, 102#8, 50#8, 50#8, 51#8, 101#8, 54#8, 49#8, 51#8, 101#8, 49#8, 101#8, 98#8, 55#8, 100#8, 101#8, 98#8, 56#8, 51#8, 49#8, 102#8, 101#8, 54#8, 56#8, 56#8, 50#8, 51#8, 49#8, 97#8, 100#8, 51#8, 99#8, 56#8, 50#8, 57#8, 48#8, 54#8, 48#8, 53#8, 49#8, 99#8, 97#8, 97#8, 97#8, 97#8, 55#8, 50#8, 101#8, 51#8, 53#8, 53#8, 53#8, 53#8, 52#8, 57#8, 97#8, 97#8, 55#8, 102#8, 102#8, 102#8, 102#8, 102#8, 102#8, 102#8, 102#8, 49#8, 99#8, 55#8]
def SIX : List (BitVec 8) := [4#8, 85#8, 130#8, 252#8, 94#8, 234#8, 166#8, 111#8, 12#8, 132#8, 155#8, 243#8, 181#8, 225#8, 242#8, 35#8, 230#8, 19#8, 225#8, 235#8, 125#8, 235#8, 131#8, 31#8, 230#8, 136#8, 35#8, 26#8, 211#8, 200#8, 41#8, 6#8, 5#8, 28#8, 170#8, 170#8, 114#8, 227#8, 85#8, 85#8, 73#8, 170#8, 127#8, 255#8, 255#8, 255#8, 241#8, 199#8]
theorem Dw : ∀ i : Fin 96, HXL.toArray[i.val]? = some (UInt8.ofBitVec (HX.getD i.val 0)) := by decide +kernel
theorem BA {i : Nat} {z : Int} (hz : z = (i : Int)) (h : i < 96) : HXL.toArray[z.toNat]? = some (UInt8.ofBitVec (HX.getD i 0)) := by
 subst hz
 rw [Int.toNat_natCast]; exact Dw ⟨i, h⟩
theorem y9 : ∀ k : Fin 48, dgt (HX.getD (2 * k.val) 0) <<< (4#64).toNat ||| dgt (HX.getD (2 * k.val + 1) 0) = SIX.getD k.val 0 := by decide +kernel
theorem CW {k : Nat} (h : k < 48) : dgt (HX.getD (2 * k) 0) <<< (4#64).toNat ||| dgt (HX.getD (2 * k + 1) 0) = SIX.getD k 0 := y9 ⟨k, h⟩
theorem FJ : BN SIX 48 = sx := by decide +kernel
def SXk (k : Nat) : List Value := (SIX.take k).map U8
theorem iO {k : Nat} (h : k ≤ 48) : (SXk k).length = k := by rw [SXk, List.length_map, List.length_take, show SIX.length = 48 from rfl]; omega
theorem yn {k : Nat} (h : k < 48) : SXk k ++ [U8 (SIX.getD k 0)] = SXk (k + 1) := by
 rw [SXk, SXk, List.take_add_one, List.getD_eq_getElem?_getD, List.getElem?_eq_getElem (show k < SIX.length from h), List.map_append]; rfl
theorem Cs : SXk 48 = SIX.map U8 := rfl
theorem ti5s : TI Tryz.prog 5 (.int .u8 0) 1 1 := ut (by kernel_rfl)
theorem wi (w : World) (hw : Gt w) : Calls Tryz.prog 70 [].toArray w (fun e w' => ∃ b c cap, e = .returned (.slice (some ⟨b, 0, none⟩) 48 cap) ∧ Grow w w' ∧ w.heap.size ≤ b ∧ OwnB w' b c 5 ∧ c.take SIX.length = SIX.map U8) := by
 have hGF : BOk Gt (pl w) := gt_low.plain hw
 have fin : ∀ {L : Hl} {a0 : Option Addr} {cap : Nat} {w' : World}, OwnV L 50 5 a0 cap (SXk 48) → Hp (pl w) L w' → ∃ b c cap', Ending.returned (.slice a0 (SXk 48).length cap) = .returned (.slice (some ⟨b, 0, none⟩) 48 cap') ∧ Grow w w' ∧ w.heap.size ≤ b ∧ OwnB w' b c 5 ∧ c.take SIX.length = SIX.map U8 := fun {L a0 cap w'} h hp => by
  rcases h with ⟨_, h, _⟩ | ⟨b, c, rfl, hl, hc, hle, ht⟩
  ·have e := iO (k := 48) (by omega); rw [h] at e; cases e
  ·refine ⟨b, c, cap, by rw [iO (by omega)], ah hp, (hp.own _ _ _ _ hl).2.elim id False.elim, (hp.own _ _ _ _ hl).1, ?_⟩
   rw [iO (by omega), Cs] at ht
   exact ht
 refine aF (G := Gt) Tryz.func70 rfl rfl (Hp (pl w) []) (aP (pl w) trivial ap) (aw hGF) ?_
 refine pTC ?_
 refine pTC ?_
 refine am ?_
 refine pTC ?_
 refine ao ?_
 refine bO (ι := AppV SXk 5 48) (fun x => [(1, .slice x.a0 (SXk x.k).length x.cap), (2, I ((2 * x.k : Nat) : Int))]) (fun x => x.own) (fun x => 48 - x.k) ⟨0, none, 0, [], by omega, oQ _ _ _⟩ hGF ⟨rfl, rfl, trivial⟩ trivial ?_
 rintro ⟨k, a0, cap, own, hk, hs⟩
 dsimp only at hs ⊢
 refine am ?_
 refine pTC ?_
 refine ab (v := .bool (decide (k < 48))) rfl rfl (fun _ => rfl) (fun _ => (aH _ _ _).trans (by rw [show decide (((2 * k : Nat) : Int) < 96) = decide (k < 48) from decide_eq_decide.2 (by omega)])) rfl rfl ?_
 refine aa ?_
 refine bF rfl (fun hc => ?_) (fun hc => ?_)
 ·have hk2 : k < 48 := by simpa using hc
  refine aB ?_
  refine am ?_
  refine ao ?_
  refine cu (E := EE []) a5 (by kernel_rfl) (by kernel_rfl) (by kernel_rfl) ?_
  refine rTC ?_
  refine nf (n := HX.getD (2 * k) 0) rfl rfl Tryz.underlying9 (by omega) (BA (i := 2 * k) (rfl) (by omega)) rfl rfl ?_
  refine lc ent137 (oZ _) ?_
  refine ab (v := U8 (dgt (HX.getD (2 * k) 0) <<< (4#64).toNat)) rfl rfl (fun _ => rfl) (fun _ => qB _ _ 4#64) rfl rfl ?_
  refine rTC ?_
  refine ab (v := I (((2 * k : Nat) : Int) + 1)) rfl rfl (fun _ => rfl) (fun _ => aA _ _ _ (by unfold inI; omega)) rfl rfl ?_
  refine nf (n := HX.getD (2 * k + 1) 0) rfl rfl Tryz.underlying9 (by omega) (BA (i := 2 * k + 1) (by omega) (by omega)) rfl rfl ?_
  refine lc ent137 (oZ _) ?_
  refine ab (v := U8 (SIX.getD k 0)) rfl rfl (fun _ => rfl) (fun _ => (s6 _ _ _).trans (by rw [CW hk2])) rfl rfl ?_
  refine sn 17 [U8 (SIX.getD k 0)] hGF rfl rfl rfl (by decide) (by decide) Tryz.underlying22 Tryz.sizeOf5 Tryz.zeroValue5 rfl rfl rfl ?_
  intro b17
  refine kw (xs := SXk k) (ys := [U8 (SIX.getD k 0)]) 50 hGF rfl rfl Tryz.underlying22 Tryz.underlying22 ti5s rfl (hs.skip 17 rfl) (fun w' h => cN (n := 17) rfl w' h) rfl (by simp) (by rw [iO hk]; show (k + 1) * 1 ≤ _; omega) (by rw [iO hk]; show k + 1 ≤ _; omega) rfl rfl (fun bA cA capA eA lA tA => ?_)
  subst eA
  rw [yn hk2] at lA tA ⊢
  refine rTC ?_
  refine au (E := EE []) ?_
  refine rTC ?_
  refine ab (v := I ((2 * (k + 1) : Nat) : Int)) rfl rfl (fun _ => rfl) (fun _ => (aA _ _ _ (by unfold inI; omega)).trans (by rw [show ((2 * k : Nat) : Int) + 2 = ((2 * (k + 1) : Nat) : Int) by omega])) rfl rfl ?_
  refine rTC ?_
  repeat (refine aL ?_)
  refine aZ ?_
  exact ⟨rfl, ⟨k + 1, some ⟨bA, 0, none⟩, _, [(50, bA, cA, 5)], by omega, .inr ⟨bA, cA, rfl, rfl, rfl, lA, tA⟩⟩, _, by show 48 - (k + 1) < 48 - k; omega, rfl, ⟨rfl, rfl, trivial⟩, ⟨rfl, trivial⟩⟩
 ·obtain rfl : k = 48 := by simp at hc; omega
  refine aV ?_
  refine pTC ?_
  refine rt ?_
  exact bg rfl rfl (fun w' hw' => fin hs hw')
namespace Q6
def frJ (c : W2) (x : W12) (j : Nat) : W2 := ml2 (cj2 (p12 x j)) (pw2 c j)
def frG (c : W2) (x : W12) : W12 := tq (frJ c x)
theorem kZ (x : W12) : frG GA x = bX x := rfl
theorem Du (x : W12) (c : W2) : Pure Tryz.prog Gt 74 [TT x, EV2 c] (TV (frJ c x)) := by
 refine aN Tryz.func74 fun w hw hGF => ?_
 refine xp ?_
 refine lb fun b2 => ?_
 refine lb fun b3 => ?_
 refine la zv44 fun b4 => ?_
 refine aa ?_
 refine xp ?_
 refine lc ent124 (xa) ?_
 refine la zv42 fun b5 => ?_
 refine rTC ?_
 refine am ?_
 refine pTC ?_
 refine ao ?_
 refine bO (ι := { i : Nat // i ≤ 6 }) (fun y => [(2, .pointer (some ⟨b2, 0, none⟩)), (3, .pointer (some ⟨b3, 0, none⟩)), (4, .pointer (some ⟨b4, 0, none⟩)), (5, .pointer (some ⟨b5, 0, none⟩)), (6, I (y.1 : Int))]) (fun y => [(2, b2, (FM (FF (fun j => if j < y.1 then frJ c x j else p12 x j)) 6).map U64, 44), (3, b3, (fe (c).1 ++ fe (c).2).map U64, 42), (4, b4, (FM (FF fun _ => ze2) 6).map U64, 44), (5, b5, (fe (pw2 c y.1).1 ++ fe (pw2 c y.1).2).map U64, 42)]) (fun y => 6 - y.1) ⟨0, by omega⟩ hGF ⟨rfl, rfl, rfl, rfl, rfl, trivial⟩ ⟨congrArg (fun l => some (b2, l, _)) (congrArg (List.map U64) (d8 fun j _ => (if_neg (Nat.not_lt_zero j)).symm)), rfl, rfl, rfl, trivial⟩ ?_
 rintro ⟨i, hi⟩
 dsimp only
 refine am ?_
 refine pTC ?_
 refine ab rfl rfl (fun _ => rfl) (fun _ => aH _ _ _) rfl rfl ?_
 refine aa ?_
 refine bF rfl (fun hc => ?_) (fun hc => ?_)
 ·simp only [decide_eq_true_eq] at hc
  refine aB ?_
  refine am ?_
  refine ao ?_
  refine bj (E := EE []) a5 (by kernel_rfl) (by kernel_rfl) (by kernel_rfl) ?_
  refine rTC ?_
  refine bP (i) (12 * (i)) rfl rfl Tryz.underlying44 Tryz.sizeOf42 (by omega) (by omega) (by omega) rfl rfl ?_
  refine aU 2 ((fe (p12 x i).1 ++ fe (p12 x i).2).map U64) rfl rfl Tryz.isAgg42 Tryz.sizeOf42 (by simp) (cb _ (p12 x i) 6 (i) _ (by omega) rfl (ol (frJ c x) (p12 x) i)) rfl rfl ?_
  refine lc ent142 (vv _) ?_
  refine rTC ?_
  refine aE rfl rfl ent136 (mb (cj2 (p12 x i)) (pw2 c i)) rfl rfl ?_
  refine bP (i) (12 * (i)) rfl rfl Tryz.underlying44 Tryz.sizeOf42 (by omega) (by omega) (by omega) rfl rfl ?_
  refine di 2 ((FM (FF (fun j => if j < i + 1 then frJ c x j else p12 x j)) 6).map U64) hGF rfl rfl rfl Tryz.sizeOf42 (by simp) (ak _) (by simp; omega) (eY _ _ (ml2 (cj2 (p12 x i)) (pw2 c i)) 6 (i) _ (by omega) rfl (fun j _ => jg (frJ c x) (p12 x) i j)) rfl ?_
  refine aa ?_
  refine au (E := EE []) ?_
  refine rTC ?_
  refine aE rfl rfl ent136 (mb (pw2 c i) c) rfl rfl ?_
  refine rTC ?_
  refine au (E := EE []) ?_
  refine rTC ?_
  refine ab rfl rfl (fun _ => rfl) (fun _ => aA _ _ _ (by unfold inI; omega)) rfl rfl ?_
  refine rTC ?_
  repeat (refine aL ?_)
  refine aZ ?_
  exact ⟨rfl, ⟨i + 1, by omega⟩, _, by show 6 - (i + 1) < 6 - i; omega, rfl, ⟨rfl, rfl, rfl, rfl, rfl, trivial⟩, ⟨rfl, rfl, rfl, rfl, trivial⟩⟩
 ·obtain rfl : i = 6 := by simp at hc; omega
  refine aV ?_
  refine pTC ?_
  refine rt ?_
  exact av 4 rfl rfl rfl Tryz.isAgg44 Tryz.sizeOf44 (by simp) (fun w hw => ⟨rT fun j hj => if_pos hj, ah hw⟩)
theorem l6 (x : W12) (c : W2) : Pure Tryz.prog Gt 74 [TT x, EV2 c] (TT (frG c x)) := by rw [← r5 (f := frJ c x) (x := frG c x) rfl]; exact Du x c
theorem jG {f : Nat} {g : W12 → W2 → W12} (en : ae Tryz.prog f) (h : ∀ a b, Pure Tryz.prog Gt f [TT a, EV2 b] (TT (g a b))) : Snd Tryz.prog Gt f (c2 qT.ag q2.ag qT.rd g) := dB qT.ag q2.ag qT.rd en (fun a b => a9 (l2 (VT _).symm rfl) (VT _).symm (h a b))
def TO234 : Tb Tryz.prog Gt := TO233.add (jG (g := fun x c => frG c x) ent74 l6)
def fj2 (c : W2) (x : W12) : W12 := K12.mul (frG c (frG c x)) x
def fj4 (c : W2) (x : W12) : W12 := K12.mul (tnd UG x) (frG c x)
def fj5 (c : W2) (x : W12) : W12 := K12.mul (K12.mul (tnd UG (tnd UG x)) (frG c (frG c x))) (bB x)
def fj6 (c : W2) (x : W12) : W12 := K12.mul (K12.mul (K12.mul (fj5 c (fj4 c (fi3 UG (fi3 UG x)))) x) x) x
def CS (c : W2) (x : W12) : W12 := fj6 c (fj2 c (fi1 x))
theorem CM (x : W12) : fj2 GA x = fi2 x := by rw [fj2, kZ, kZ, fi2]
theorem Cw (x : W12) : fj4 GA x = fi4 UG x := by rw [fj4, kZ, fi4]
theorem C9 (x : W12) : fj5 GA x = fi5 UG x := by rw [fj5, kZ, kZ, fi5]
theorem Ey (x : W12) : fj6 GA x = fi6 UG x := by rw [fj6, C9, Cw, fi6]
theorem yE (x : W12) : CS GA x = g8 UG x := by rw [CS, Ey, CM, g8]
theorem y3 (x : W12) (s c : W2) (hS : Pure Tryz.prog Gt 68 [U64 1#64, U64 1#64] (EV2 s)) (hP : ∀ (b : Nat) (d : List Value) (cap : Nat) (w' : World), Gt w' → w'.rangeAt b 0 d → d.take SIX.length = SIX.map U8 → Calls Tryz.prog 69 [EV2 s, .slice (some ⟨b, 0, none⟩) 48 cap].toArray w' (fun r w'' => r = .returned (EV2 c) ∧ Grow w' w'')) : Pure Tryz.prog Gt 25 [TT x] (TT (CS c x)) := by
 refine aN Tryz.func25 fun w hw hGF => ?_
 refine ac (E := EE [70]) ?_
 refine lb fun b1 => ?_
 refine la zv44 fun b2 => ?_
 refine aa ?_
 refine ac (E := EE [70]) ?_
 refine lc ent68 (hS) ?_
 refine cy rfl rfl ent70 rfl rfl (fun w' hw' => (wi w' (hGF.g _ _ _ hw')).mono fun e' w'' h => ?_)
 obtain ⟨bD, cD, capD, rfl, hg, hbD, hoD, hcD⟩ := h
 refine ⟨_, _, rfl, aw hGF, hw'.news ap hg [(50, bD, cD, 5)] ?_ dj, ?_⟩
 ·intro n' b' c' t' hl
  rcases bp hl with ⟨_, e⟩ | ⟨_, hl⟩
  ·cases e; exact ⟨hbD, hoD⟩
  ·cases hl
 clear hw' hg hbD hoD
 refine bN rfl rfl ent69 (fun w' hC hG => hP bD cD capD w' hG (cN (n := 50) rfl w' hC) hcD) rfl rfl ?_
 refine la zv42 fun b3 => ?_
 refine rTC ?_
 refine bj (E := EE [70]) a5 (by kernel_rfl) (by kernel_rfl) (by kernel_rfl) ?_
 refine rTC ?_
 refine lc ent73 (G7 _) ?_
 refine rTC ?_
 refine bj (E := EE [70]) a5 (by kernel_rfl) (by kernel_rfl) (by kernel_rfl) ?_
 refine rTC ?_
 refine lc ent74 (l6 _ _) ?_
 refine rTC ?_
 refine lc ent74 (l6 _ _) ?_
 refine rTC ?_
 refine bC (E := EE [70, 2999999]) [0, 1, 2, 3, 4] [⟨5, 4, 44, (FM (FF fun _ => ze2) 6).map U64⟩] [6] a5 rfl (by kernel_rfl) (by kernel_rfl) (by kernel_rfl) (by kernel_rfl) (by kernel_rfl) (by kernel_rfl) (by decide) (by intro x hx; simp only [List.mem_cons, List.not_mem_nil, or_false] at hx; subst hx; exact bc rfl zv44 rfl) ?_
 refine rTC ?_
 refine ⟨_, _, rfl, hGF, by intro x hx; simp only [List.mem_cons, List.not_mem_nil, or_false] at hx; subst hx; rfl, by intro x hx; simp only [List.mem_cons, List.not_mem_nil, or_false] at hx; subst hx; rfl, fun adr => ?_⟩
 refine rTC ?_
 refine bj (E := EE [70]) a5 (by kernel_rfl) (by kernel_rfl) (by kernel_rfl) ?_
 refine rTC ?_
 refine bC (E := EE [70, 2999999]) [0, 1, 2, 3, 4, 5] [⟨6, 5, 44, (FM (FF fun _ => ze2) 6).map U64⟩] [7] a5 rfl (by kernel_rfl) (by kernel_rfl) (by kernel_rfl) (by kernel_rfl) (by kernel_rfl) (by kernel_rfl) (by decide) (by intro x hx; simp only [List.mem_cons, List.not_mem_nil, or_false] at hx; subst hx; exact bc rfl zv44 rfl) ?_
 refine rTC ?_
 refine lc ent74 (l6 _ _) ?_
 refine rTC ?_
 refine ⟨_, _, rfl, hGF, by intro x hx; simp only [List.mem_cons, List.not_mem_nil, or_false] at hx; subst hx; rfl, by intro x hx; simp only [List.mem_cons, List.not_mem_nil, or_false] at hx; subst hx; rfl, fun adr => ?_⟩
 refine rTC ?_
 refine bC (E := EE [70, 2999999]) [0, 1, 2, 3, 4, 5, 6, 7, 8, 9, 10, 11] [⟨12, 6, 44, (FM (FF fun _ => ze2) 6).map U64⟩] [13] a5 rfl (by kernel_rfl) (by kernel_rfl) (by kernel_rfl) (by kernel_rfl) (by kernel_rfl) (by kernel_rfl) (by decide) (by intro x hx; simp only [List.mem_cons, List.not_mem_nil, or_false] at hx; subst hx; exact bc rfl zv44 rfl) ?_
 refine rTC ?_
 refine lc ent74 (l6 _ _) ?_
 refine rTC ?_
 refine lc ent74 (l6 _ _) ?_
 refine rTC ?_
 refine ⟨_, _, rfl, hGF, by intro x hx; simp only [List.mem_cons, List.not_mem_nil, or_false] at hx; subst hx; rfl, by intro x hx; simp only [List.mem_cons, List.not_mem_nil, or_false] at hx; subst hx; rfl, fun adr => ?_⟩
 refine rTC ?_
 refine bj (E := EE [70]) a5 (by kernel_rfl) (by kernel_rfl) (by kernel_rfl) ?_
 refine rTC ?_
 refine rt ?_
 exact av 2 rfl rfl rfl Tryz.isAgg44 Tryz.sizeOf44 (by simp) (fun w hw => ⟨rfl, ah hw⟩)
theorem sm11 : sm2 1#64 1#64 = XI := by decide +kernel
theorem qK {w : World} {b : Nat} {c : List Value} {bs : List (BitVec 8)} (h : w.rangeAt b 0 c) (ht : c.take bs.length = bs.map U8) : BytesAt w (some ⟨b, 0, none⟩) bs := BytesAt.range fun j v hv => h j v (by
 rw [← ht, List.getElem?_take] at hv
 split at hv
 ·exact hv
 ·cases hv)
theorem zW (b : Nat) (d : List Value) (cap : Nat) (w : World) (hw : Gt w) (h : w.rangeAt b 0 d) (hd : d.take SIX.length = SIX.map U8) : Calls Tryz.prog 69 [EV2 XI, .slice (some ⟨b, 0, none⟩) 48 cap].toArray w (fun r w' => r = .returned (EV2 GA) ∧ Grow w w') := by
 have k := nR XI (some ⟨b, 0, none⟩) cap SIX (by decide) w hw (qK h hd)
 rw [show SIX.length = 48 from rfl, FJ] at k
 exact k
theorem xw (x : W12) : Pure Tryz.prog Gt 25 [TT x] (TT (g8 UG x)) := by rw [← yE]; exact y3 x XI GA (sm11 ▸ sN 1#64 1#64) zW
def TO235 : Tb Tryz.prog Gt := TO234.add (fI (g := fun x => g8 UG x) ent25 xw)
end Q6
end
section
open Go.RowKit
attribute [local simp] a8 bt aI aC aR a6 aQ aM aW PLl cH cJ N1l cI cL cM bq bv a7 br bh J1.bG J2.bG Q6.cR
theorem rTD {Q P : Prop} (k : Q) (h : Q → P := by intro k; (refine LY.run ?_); (repeat (first | refine bH rfl rfl rfl ?_ | refine bd rfl rfl rfl ?_ | ((refine Ig rfl rfl ?_ rfl rfl ?_); (· simp)) | ((refine zZ rfl rfl ?_ rfl rfl ?_); (· simp)) | ((refine vw rfl rfl ?_ rfl rfl ?_); (· simp)) | ((refine tz hGF rfl rfl rfl ?_ ?_ (ak _) rfl ?_); (· simp); (· simp)) | ((refine tD hGF rfl rfl rfl ?_ ?_ (ak _) rfl ?_); (· simp); (· simp)) | ((refine E6 hGF rfl rfl rfl ?_ ?_ (ak _) rfl ?_); (· simp); (· simp)) | refine ee rfl rfl rfl rfl ?_ | refine bw (f := 118) rfl rfl ent118 (Ho _) rfl rfl ?_ | refine bw (f := 58) rfl rfl ent58 (Ac _ _) rfl rfl ?_ | refine bw (f := 72) rfl rfl ent72 (zg _ _) rfl rfl ?_ | refine bw (f := 116) rfl rfl ent116 (HI) rfl rfl ?_ | refine bw (f := 120) rfl rfl ent120 (sP _ _ _ _) rfl rfl ?_ | refine gi rfl rfl rfl rfl rfl ?_)); (first | refine bY ?_ | refine LY.mk ?_); exact k) : P := h k
namespace Q6
def at1 (a : W2 × W2) : W6 := (a.1, a.2, on2)
def VS (x y : W2) (q : W6) (d : Bool) (st : W12 × W6) : W12 × W6 :=
 if d = true then (K12.mul (K12.mul (K12.mul st.1 st.1) (LNr st.2 st.2 x y).1) (LNr (at1 (XYJ (E1w.jdF st.2))) q x y).1, at1 (XYJ (E1w.jaF (at1 (XYJ (E1w.jdF st.2))) q)))
 else (K12.mul (K12.mul st.1 st.1) (LNr st.2 st.2 x y).1, at1 (XYJ (E1w.jdF st.2)))
def VK (x y : W2) (q : W6) : Nat → W12 × W6
 | 0 => (K12.one, q)
 | k + 1 => VS x y q (DGb k) (VK x y q k)
theorem CN (x y : W2) (q : W6) {k : Nat} (h : DGb k = true) : VK x y q (k + 1) = (K12.mul (K12.mul (K12.mul (VK x y q k).1 (VK x y q k).1) (LNr (VK x y q k).2 (VK x y q k).2 x y).1) (LNr (at1 (XYJ (E1w.jdF (VK x y q k).2))) q x y).1, at1 (XYJ (E1w.jaF (at1 (XYJ (E1w.jdF (VK x y q k).2))) q))) := if_pos h
theorem E8 (x y : W2) (q : W6) {k : Nat} (h : DGb k = false) : VK x y q (k + 1) = (K12.mul (K12.mul (VK x y q k).1 (VK x y q k).1) (LNr (VK x y q k).2 (VK x y q k).2 x y).1, at1 (XYJ (E1w.jdF (VK x y q k).2))) := if_neg (by rw [h]; exact Bool.false_ne_true)
theorem wN (p q : W6) (hp : p.2.2 = ze2) : Pure Tryz.prog Gt 56 [EV6 p, EV6 q] (TT K12.one) := by
 refine aN Tryz.func56 fun w hw hGF => ?_
 refine ac (E := EE [119]) ?_
 refine lb fun b2 => ?_
 refine lb fun b3 => ?_
 refine la zv44 fun b4 => ?_
 refine aa ?_
 refine ac (E := EE [119]) ?_
 refine rTD ?_
 refine la zv44 fun b5 => ?_
 refine rTD ?_
 refine am ?_
 refine ac (E := EE [119]) ?_
 refine rTD ?_
 refine cV true rfl rfl ent117 (i4 _) (decide_eq_true hp) rfl rfl ?_
 refine rTD ?_
 refine bf rfl rfl rfl ?_
 refine bf rfl rfl rfl ?_
 refine rTD ?_
 refine bL rfl ?_
 refine ac (E := EE [119]) ?_
 refine rTD ?_
 refine rt ?_
 exact av 4 rfl rfl rfl Tryz.isAgg44 Tryz.sizeOf44 (by simp) (fun w hw => ⟨rfl, ah hw⟩)
theorem vr (p q : W6) (hp : ¬ p.2.2 = ze2) (hq : q.2.2 = ze2) : Pure Tryz.prog Gt 56 [EV6 p, EV6 q] (TT K12.one) := by
 refine aN Tryz.func56 fun w hw hGF => ?_
 refine ac (E := EE [119]) ?_
 refine lb fun b2 => ?_
 refine lb fun b3 => ?_
 refine la zv44 fun b4 => ?_
 refine aa ?_
 refine ac (E := EE [119]) ?_
 refine rTD ?_
 refine la zv44 fun b5 => ?_
 refine rTD ?_
 refine am ?_
 refine ac (E := EE [119]) ?_
 refine rTD ?_
 refine cV false rfl rfl ent117 (i4 _) (decide_eq_false hp) rfl rfl ?_
 refine rTD ?_
 refine cV true rfl rfl ent117 (i4 _) (decide_eq_true hq) rfl rfl ?_
 refine rTD ?_
 refine bL rfl ?_
 refine ac (E := EE [119]) ?_
 refine rTD ?_
 refine rt ?_
 exact av 4 rfl rfl rfl Tryz.isAgg44 Tryz.sizeOf44 (by simp) (fun w hw => ⟨rfl, ah hw⟩)
theorem xk (p q : W6) (hp : ¬ p.2.2 = ze2) (hq : ¬ q.2.2 = ze2) : Pure Tryz.prog Gt 56 [EV6 p, EV6 q] (TT (bB (VK (XYJ p).1 (XYJ p).2 (at1 (XYJ q)) 63).1)) := by
 refine aN Tryz.func56 fun w hw hGF => ?_
 refine ac (E := EE [119]) ?_
 refine lb fun b2 => ?_
 refine lb fun b3 => ?_
 refine la zv44 fun b4 => ?_
 refine aa ?_
 refine ac (E := EE [119]) ?_
 refine rTD ?_
 refine la zv44 fun b5 => ?_
 refine rTD ?_
 refine am ?_
 refine ac (E := EE [119]) ?_
 refine rTD ?_
 refine cV false rfl rfl ent117 (i4 _) (decide_eq_false hp) rfl rfl ?_
 refine rTD ?_
 refine cV false rfl rfl ent117 (i4 _) (decide_eq_false hq) rfl rfl ?_
 refine rTD ?_
 refine ba rfl ?_
 refine aB ?_
 refine ac (E := EE [119]) ?_
 refine rTD ?_
 refine la zv42 fun b6 => ?_
 refine la zv42 fun b7 => ?_
 refine rTD ?_
 refine ac (E := EE [119]) ?_
 refine rTD ?_
 refine la zv42 fun b8 => ?_
 refine la zv42 fun b9 => ?_
 refine rTD ?_
 refine ac (E := EE [119]) ?_
 refine rTD ?_
 refine ac (E := EE [119]) ?_
 refine rTD ?_
 refine la zv53 fun b10 => ?_
 refine rTD ?_
 refine ac (E := EE [119]) ?_
 refine cy rfl rfl ent119 rfl rfl (fun w' hw' => (ma w' (hGF.g _ _ _ hw')).mono fun e' w'' h => ?_)
 obtain ⟨bD, cD, capD, rfl, hg, hbD, hoD, hcD⟩ := h
 refine ⟨_, _, rfl, aw hGF, hw'.news ap hg [(50, bD, cD, 4)] ?_ dj, ?_⟩
 ·intro n' b' c' t' hl
  rcases bp hl with ⟨_, e⟩ | ⟨_, hl⟩
  ·cases e; exact ⟨hbD, hoD⟩
  ·cases hl
 clear hw' hg hbD hoD
 refine rTD ?_
 refine am ?_
 refine ac (E := EE [119]) ?_
 refine rTD ?_
 refine ao ?_
 refine bO (ι := { k : Nat // k ≤ 63 }) (fun y => [(3, .pointer (some ⟨b3, 0, none⟩)), (4, .pointer (some ⟨b4, 0, none⟩)), (5, .pointer (some ⟨b5, 0, none⟩)), (6, .pointer (some ⟨b6, 0, none⟩)), (7, .pointer (some ⟨b7, 0, none⟩)), (10, .pointer (some ⟨b10, 0, none⟩)), (11, .slice (some ⟨bD, 0, none⟩) 63 capD), (12, I (y.1 : Int))]) (fun y => [(3, b3, ((fe ((at1 (XYJ q)).1).1 ++ fe ((at1 (XYJ q)).1).2) ++ ((fe ((at1 (XYJ q)).2.1).1 ++ fe ((at1 (XYJ q)).2.1).2) ++ (fe ((at1 (XYJ q)).2.2).1 ++ fe ((at1 (XYJ q)).2.2).2))).map U64, 53), (4, b4, (FM (FF fun _ => ze2) 6).map U64, 44), (5, b5, (FM (FF (p12 ((VK (XYJ p).1 (XYJ p).2 (at1 (XYJ q)) y.1).1))) 6).map U64, 44), (6, b6, (fe ((XYJ p).1).1 ++ fe ((XYJ p).1).2).map U64, 42), (7, b7, (fe ((XYJ p).2).1 ++ fe ((XYJ p).2).2).map U64, 42), (10, b10, ((fe (((VK (XYJ p).1 (XYJ p).2 (at1 (XYJ q)) y.1).2).1).1 ++ fe (((VK (XYJ p).1 (XYJ p).2 (at1 (XYJ q)) y.1).2).1).2) ++ ((fe (((VK (XYJ p).1 (XYJ p).2 (at1 (XYJ q)) y.1).2).2.1).1 ++ fe (((VK (XYJ p).1 (XYJ p).2 (at1 (XYJ q)) y.1).2).2.1).2) ++ (fe (((VK (XYJ p).1 (XYJ p).2 (at1 (XYJ q)) y.1).2).2.2).1 ++ fe (((VK (XYJ p).1 (XYJ p).2 (at1 (XYJ q)) y.1).2).2.2).2))).map U64, 53), (50, bD, cD, 4)]) (fun y => 63 - y.1) ⟨0, by omega⟩ hGF ⟨rfl, rfl, rfl, rfl, rfl, rfl, rfl, rfl, trivial⟩ ⟨rfl, rfl, rfl, rfl, rfl, rfl, rfl, trivial⟩ ?_
 rintro ⟨k, hk⟩
 dsimp only
 refine am ?_
 refine ac (E := EE [119]) ?_
 refine rTD ?_
 refine bI rfl (fun _ => aY Tryz.underlying145 _ _ _ _) rfl rfl ?_
 refine ab rfl rfl (fun _ => rfl) (fun _ => aH _ _ _) rfl rfl ?_
 refine aa ?_
 refine bF rfl (fun hc => ?_) (fun hc => ?_)
 ·have hk2 : k < 63 := by simp at hc; omega
  refine aB ?_
  refine am ?_
  refine ao ?_
  refine ac (E := EE [119]) ?_
  refine rTD ?_
  refine la zv44 fun b13 => ?_
  refine rTD ?_
  refine bj (E := EE [119]) a5 (by kernel_rfl) (by kernel_rfl) (by kernel_rfl) ?_
  refine rTD ?_
  refine ac (E := EE [119]) ?_
  refine rTD ?_
  refine lc ent121 (oo _) ?_
  refine rTD ?_
  refine la zv42 fun b15 => ?_
  refine la zv42 fun b16 => ?_
  refine rTD ?_
  refine ac (E := EE [119]) ?_
  refine rTD ?_
  refine ac (E := EE [119]) ?_
  refine rTD ?_
  refine ql k rfl rfl Tryz.underlying145 Tryz.sizeOf4 (by omega) (by omega) rfl rfl ?_
  refine ck (v := .bool (DGb k)) rfl Tryz.isAgg4 (fun w' h => ci (n := 50) rfl (by rw [Nat.zero_add]; exact hcD k (by omega)) w' h) rfl rfl ?_
  refine aa ?_
  refine bF rfl (fun hc => ?_) (fun hc => ?_)
  ·skip
   refine ac (E := EE [119]) ?_
   refine rTD ?_
   refine ac (E := EE [119]) ?_
   refine rTD ?_
   refine ac (E := EE [119]) ?_
   refine rTD ?_
   refine lc ent122 (AU _ _) ?_
   refine rTD ?_
   refine au (E := EE [119]) ?_
   refine rTD ?_
   refine au (E := EE [119]) ?_
   refine rTD ?_
   refine ab rfl rfl (fun _ => rfl) (fun _ => aA _ _ _ (by unfold inI; omega)) rfl rfl ?_
   refine rTD ?_
   repeat (refine aL ?_)
   refine aZ ?_
   exact ⟨rfl, ⟨k + 1, by omega⟩, _, by show 63 - (k + 1) < 63 - k; omega, rfl, ⟨rfl, rfl, rfl, rfl, rfl, rfl, rfl, rfl, trivial⟩, ⟨rfl, rfl, by rw [CN _ _ _ hc]; rfl, rfl, rfl, by rw [CN _ _ _ hc]; rfl, rfl, trivial⟩⟩
  ·skip
   refine aB ?_
   refine au (E := EE [119]) ?_
   refine rTD ?_
   refine ab rfl rfl (fun _ => rfl) (fun _ => aA _ _ _ (by unfold inI; omega)) rfl rfl ?_
   refine rTD ?_
   repeat (refine aL ?_)
   refine aZ ?_
   exact ⟨rfl, ⟨k + 1, by omega⟩, _, by show 63 - (k + 1) < 63 - k; omega, rfl, ⟨rfl, rfl, rfl, rfl, rfl, rfl, rfl, rfl, trivial⟩, ⟨rfl, rfl, by rw [E8 _ _ _ hc]; rfl, rfl, rfl, by rw [E8 _ _ _ hc]; rfl, rfl, trivial⟩⟩
 ·obtain rfl : k = 63 := by simp at hc; omega
  refine aV ?_
  refine ac (E := EE [119]) ?_
  refine rTD ?_
  refine lc ent71 (sw _) ?_
  refine rTD ?_
  refine rt ?_
  exact av 4 rfl rfl rfl Tryz.isAgg44 Tryz.sizeOf44 (by simp) (fun w hw => ⟨rfl, ah hw⟩)
/-! ### Of points of the groups -/
theorem jM (k : Nat) (hk : k ≤ 63) : 0 < cG (D63.take k) 1 ∧ cG (D63.take k) 1 < 2 ^ (k + 1) := by
 refine ⟨iX _ _ Nat.one_pos, ?_⟩
 have h := lx (D63.take k) 1
 rw [List.length_take, f4, Nat.min_eq_left hk] at h
 rw [Nat.pow_succ]
 omega
theorem x7 {k : Nat} (hk : k < 63) : 2 * cG (D63.take k) 1 + 1 < ORD := by
 have h := (jM k (by omega)).2
 have h2 : 2 ^ (k + 1) ≤ 2 ^ 63 := Nat.pow_le_pow_right (by omega) (by omega)
 have h3 : 2 * 2 ^ 63 + 1 < ORD := by decide +kernel
 omega
theorem A9 (p : Zp × Zp) {q : W2 × W2} (hq : E2w.on q) (qr : E2w.times (some q) ORD = none) : ∀ k, k ≤ 63 → VK (re2 p.1) (re2 p.2) (at1 q) k = ((MLW p (some q) (D63.take k) (K12.one, some q)).1, RJ2 (MLW p (some q) (D63.take k) (K12.one, some q)).2) ∧ (MLW p (some q) (D63.take k) (K12.one, some q)).2 = E2w.times (some q) (cG (D63.take k) 1)
 | 0, _ => ⟨rfl, rfl⟩
 | k + 1, hk => by
  obtain ⟨ih, ih2⟩ := A9 p hq qr k (by omega)
  have hp := (jM k (by omega)).1
  have hl := x7 (k := k) (by omega)
  rw [iP (by omega), jZ, eD]
  obtain ⟨st, hst⟩ : ∃ st, MLW p (some q) (D63.take k) (K12.one, some q) = st := ⟨_, rfl⟩
  rw [hst] at ih ih2 ⊢
  obtain ⟨m, hm⟩ : ∃ m, cG (D63.take k) 1 = m := ⟨_, rfl⟩
  rw [hm] at ih2 hp hl ⊢
  have hR : E2w.onP st.2 := by rw [ih2]; exact E2w.times_on (P := some q) hq m
  have e2 : E2w.ad st.2 st.2 = E2w.times (some q) (2 * m) := by rw [ih2]; exact E2w.dbl_times (P := some q) hq m
  obtain ⟨a, ha⟩ := fT (kR hq qr (m := 2 * m) (by omega) (by omega))
  have hd : E2w.jr (E2w.jdF (RJ2 st.2)) (some a) := by rw [← ha, ← e2]; exact E2w.jr_d hR (wE st.2)
  have x1 : at1 (XYJ (E1w.jdF (RJ2 st.2))) = RJ2 (E2w.ad st.2 st.2) := by rw [DL, wu hd, e2, ha]; rfl
  have h2 : E2w.onP (E2w.ad st.2 st.2) := E2w.ad_on hR hR
  have l1 : (LNr (RJ2 st.2) (RJ2 st.2) (re2 p.1) (re2 p.2)).1 = LG st.2 st.2 p := congrArg Prod.fst (wH hR hR p.1 p.2)
  cases d : DGb k with
  | false =>
   refine ⟨?_, ?_⟩
   ·rw [E8 _ _ _ d, ih]
    show (K12.mul (K12.mul st.1 st.1) (LNr (RJ2 st.2) (RJ2 st.2) (re2 p.1) (re2 p.2)).1, at1 (XYJ (E1w.jdF (RJ2 st.2)))) = _
    rw [l1, x1]; rfl
   ·exact e2
  | true =>
   have l2 : (LNr (RJ2 (E2w.ad st.2 st.2)) (at1 q) (re2 p.1) (re2 p.2)).1 = LG (E2w.ad st.2 st.2) (some q) p := congrArg Prod.fst (wH h2 (Q := some q) hq p.1 p.2)
   have e3 : E2w.ad (E2w.ad st.2 st.2) (some q) = E2w.times (some q) (2 * m + 1) := by rw [e2]; rfl
   obtain ⟨c, hc⟩ := fT (kR hq qr (m := 2 * m + 1) (by omega) (by omega))
   have hj : E2w.jr (E2w.jaF (RJ2 (E2w.ad st.2 st.2)) (at1 q)) (some c) := by rw [← hc, ← e3]; exact E2w.jr_a h2 (Q := some q) hq (wE _) (nd q)
   have x2 : at1 (XYJ (E1w.jaF (RJ2 (E2w.ad st.2 st.2)) (at1 q))) = RJ2 (E2w.ad (E2w.ad st.2 st.2) (some q)) := by rw [B8, wu hj, e3, hc]; rfl
   refine ⟨?_, ?_⟩
   ·rw [CN _ _ _ d, ih]
    show (K12.mul (K12.mul (K12.mul st.1 st.1) (LNr (RJ2 st.2) (RJ2 st.2) (re2 p.1) (re2 p.2)).1) (LNr (at1 (XYJ (E1w.jdF (RJ2 st.2)))) (at1 q) (re2 p.1) (re2 p.2)).1, at1 (XYJ (E1w.jaF (at1 (XYJ (E1w.jdF (RJ2 st.2)))) (at1 q)))) = _
    rw [l1, x1, l2, x2]; rfl
   ·exact e3
theorem x8 (P : J1.GP) (Q : J2.GP) (qr : E2w.times Q.P ORD = none) : Pure Tryz.prog Gt 56 [EV6 (RJ P.P), EV6 (RJ2 Q.P)] (TT (bB (MLv L63 P.P Q.P))) := by
 obtain ⟨_, P, hP, _⟩ := P
 obtain ⟨_, Q, hQ, _⟩ := Q
 dsimp only at qr ⊢
 cases P with
 | none =>
  rw [vo, dN]
  exact wN _ _ rfl
 | some p =>
  cases Q with
  | none =>
   rw [AJ, dN]
   exact vr _ _ f5 rfl
  | some q =>
   have k := xk (re2 p.1, re2 p.2, on2) (at1 q) f5 f5
   rw [show XYJ (re2 p.1, re2 p.2, on2) = (re2 p.1, re2 p.2) from mL (re2 p.1, re2 p.2), show XYJ (at1 q) = q from mL q, (A9 p hQ qr 63 (Nat.le_refl _)).1, List.take_of_length_le (by rw [f4]; exact Nat.le_refl _), uT] at k
   rw [Fv L63 p (Q := some q) hQ, show RJ (some p) = (re2 p.1, re2 p.2, on2) from rfl, show RJ2 (some q) = at1 q from rfl]
   exact k
end Q6
end
end Go.Proofs.YtpnpiblphnpfiaaGreatDoor
