/-
 The program's digits.
 The reference's digits; to the power of x; the sixth.
 The reference's sixth, the power of p, the long power; the laws' gone.
 The reference's value of a pair.
-/
import Derived.Test.YtpnpiblphnpfiaaGreatDoorXH
import Derived.Test.YtpnpiblphnpfiaaGreatDoorX3
import Derived.Test.YtpnpiblphnpfiaaGreatDoorX5
import Derived.Test.YtpnpiblphnpfiaaGreatDoorXA
set_option maxRecDepth 100000
set_option maxHeartbeats 1000000
namespace Go.Proofs.YtpnpiblphnpfiaaGreatDoor
section
open Go.RowKit
attribute [local simp] aP bc aM aH aA a9 aF aE aG PLl bY ca N1l cb cf bZ aU ba aN aZ a7
theorem rTA {Q P : Prop} (k : Q) (h : Q → P := by intro k; (refine LY.run ?_); (repeat (first | refine bI rfl rfl rfl ?_ | refine bd rfl rfl rfl ?_)); (first | refine cm ?_ | refine LY.mk ?_); exact k) : P := h k
theorem pTA {Q P : Prop} (k : Q) (h : Q → P := by intro k; (refine xp ?_); (refine rTA ?_); exact k) : P := h k
theorem ent159 : ae Tryz.prog 159 := fun _ _ => by kernel_rfl
theorem Cc : Pure Tryz.prog Gt 159 [U64 15132376222941642752#64] (I 64) := by
 refine a8 Tryz.func159 fun w hw hGF => ?_
 refine pTA ?_
 refine ao ?_
 refine pTA ?_
 refine bK true rfl rfl (fun _ => rfl) (fun _ => ge _ _ _) (by decide) rfl rfl ?_
 refine aa ?_
 refine bV rfl ?_
 refine pTA ?_
 refine ac (v := U64 3523280896#64) rfl rfl (fun _ => rfl) (fun _ => (cC _ _ 32#64).trans (by rfl)) rfl rfl ?_
 refine rTA ?_
 refine aq (E := EE []) ?_
 refine rTA ?_
 refine ao ?_
 refine pTA ?_
 refine bK true rfl rfl (fun _ => rfl) (fun _ => ge _ _ _) (by decide) rfl rfl ?_
 refine aa ?_
 refine bV rfl ?_
 refine pTA ?_
 refine ac (v := U64 53761#64) rfl rfl (fun _ => rfl) (fun _ => (cC _ _ 16#64).trans (by rfl)) rfl rfl ?_
 refine rTA ?_
 refine aq (E := EE []) ?_
 refine rTA ?_
 refine ac (v := I 48) rfl rfl (fun _ => rfl) (fun _ => (aI _ _ _ (by unfold inI; decide)).trans (by rfl)) rfl rfl ?_
 refine rTA ?_
 refine ao ?_
 refine pTA ?_
 refine bK true rfl rfl (fun _ => rfl) (fun _ => ge _ _ _) (by decide) rfl rfl ?_
 refine aa ?_
 refine bV rfl ?_
 refine pTA ?_
 refine ac (v := U64 210#64) rfl rfl (fun _ => rfl) (fun _ => (cC _ _ 8#64).trans (by rfl)) rfl rfl ?_
 refine rTA ?_
 refine aq (E := EE []) ?_
 refine rTA ?_
 refine ac (v := I 56) rfl rfl (fun _ => rfl) (fun _ => (aI _ _ _ (by unfold inI; decide)).trans (by rfl)) rfl rfl ?_
 refine rTA ?_
 refine pTA ?_
 refine jz rfl rfl (fun _ => i7 Tryz.underlying24 Tryz.underlying5 _) rfl rfl ?_
 refine zk (n := 8#8) rfl rfl Tryz.underlying9 (by decide) (by kernel_rfl) rfl rfl ?_
 refine jz rfl rfl (fun _ => sZ Tryz.underlying5 Tryz.underlying3 _) rfl rfl ?_
 refine ac (v := I 64) rfl rfl (fun _ => rfl) (fun _ => (aI _ _ _ (by unfold inI; decide)).trans (by rfl)) rfl rfl ?_
 refine rTA ?_
 refine rt ?_
 exact a5 rfl rfl (fun w hw => ⟨rfl, ah hw⟩)
theorem qo : Pure Tryz.prog Gt 112 [] (.func (.func 158) #[] #[]) := by
 refine a8 Tryz.func112 fun w hw hGF => ?_
 refine pTA ?_
 refine pTA ?_
 refine rt ?_
 exact a5 rfl rfl (fun w hw => ⟨rfl, ah hw⟩)
def DGb (k : Nat) : Bool := 15132376222941642752#64 >>> (62 - k) &&& 1#64 == 1#64
def D63 : List Bool := (List.range 63).map DGb
theorem g7 : D63.length = 63 := by rw [D63, List.length_map, List.length_range]
theorem rH {k : Nat} (h : k < 63) : D63[k]? = some (DGb k) := by rw [D63, List.getElem?_map, List.getElem?_range h]; rfl
def DGs : List (List Value) := D63.map fun d => [.bool d]
theorem gH : DGs.length = 63 := by rw [DGs, List.length_map, g7]
theorem rK {k : Nat} (h : k < 63) : DGs[k]? = some [.bool (DGb k)] := by rw [DGs, List.getElem?_map, rH h]; rfl
theorem mW {k : Nat} {v : List Value} (h : DGs[k]? = some v) : k < 63 ∧ v = [.bool (DGb k)] := by
 have hk : k < 63 := by
  rcases Nat.lt_or_ge k 63 with hk | hk
  ·exact hk
  ·rw [List.getElem?_eq_none (by rw [gH]; exact hk)] at h; cases h
 exact ⟨hk, (Option.some.inj ((rK hk).symm.trans h)).symm⟩
theorem ir : eu Tryz.prog Gt 158 [] DGs (fun _ => True) := by
 intro l J Jx hJ hJx hRd hGx hY w hj
 have okJ : ∀ k, BOk Gt (Bi w (fun Y => J Y k)) := fun k => ⟨fun _ _ _ h => (hRd _ _ _ h.rid).1, hJ k⟩
 have okX : ∀ k, BOk Gt (Bi w (fun Y => Jx Y k)) := fun k => ⟨fun _ _ _ h => hGx _ _ _ h.rid, hJx k⟩
 refine aB (G := Gt) Tryz.func158 rfl rfl (Hp (Bi w (fun Y => J Y 0)) []) (aJ (Bi w _) hj (hJ 0)) (ap (okJ 0)) ?_
 refine xp ?_
 refine lc ent159 (Cc) ?_
 refine ac (v := I 62) rfl rfl (fun _ => rfl) (fun _ => (bj _ _ _ (by unfold inI; decide)).trans (by rfl)) rfl rfl ?_
 refine rTA ?_
 refine aj ?_
 refine dV (ι := { k : Nat // k ≤ 63 }) (fun x => [(0, .func (.yield l) #[] #[]), (2, I (62 - (x.1 : Int)))]) (fun x => Bi w (fun Y => J Y x.1)) (fun x => []) (fun x => 63 - x.1) ⟨0, Nat.zero_le _⟩ (fun _ => okJ _) rfl ⟨rfl, rfl, trivial⟩ trivial ?_
 rintro ⟨k, hk⟩
 dsimp only
 refine ao ?_
 refine pTA ?_
 refine ac (v := .bool (decide (k < 63))) rfl rfl (fun _ => rfl) (fun _ => (di _ _ _).trans (by rw [show decide ((62 - (k : Int)) ≥ 0) = decide (k < 63) from decide_eq_decide.2 (by omega)])) rfl rfl ?_
 refine aa ?_
 refine bM rfl (fun hc => ?_) (fun hc => ?_)
 ·have hk2 : k < 63 := by simpa using hc
  refine az ?_
  refine ao ?_
  refine aj ?_
  refine pTA ?_
  refine ac (v := U64 (15132376222941642752#64 >>> (62 - k))) rfl rfl (fun _ => rfl) (fun _ => (eU _ _ _ (by omega)).trans (by rw [show (62 - (k : Int)).toNat = 62 - k by omega])) rfl rfl ?_
  refine ac (v := U64 (15132376222941642752#64 >>> (62 - k) &&& 1#64)) rfl rfl (fun _ => rfl) (fun _ => dS _ _ 1#64) rfl rfl ?_
  refine ac (v := .bool (DGb k)) rfl rfl (fun _ => rfl) (fun _ => bB _ _ 1#64) rfl rfl ?_
  refine db (hY.b (k := k) (rK hk2) w) (okJ _) (okX _) rfl rfl rfl rfl rfl ?_ ?_
  ·skip
   refine bx rfl (fun _ => bf _) rfl rfl ?_
   refine aa ?_
   refine bl rfl ?_
   refine az ?_
   refine aq (E := EE []) ?_
   refine rTA ?_
   refine ac (v := I (62 - ((k + 1 : Nat) : Int))) rfl rfl (fun _ => rfl) (fun _ => (bj _ _ _ (by unfold inI; omega)).trans (by rw [show 62 - (k : Int) - 1 = 62 - ((k + 1 : Nat) : Int) by omega])) rfl rfl ?_
   refine rTA ?_
   repeat (refine aO ?_)
   refine bi ?_
   exact ⟨rfl, ⟨k + 1, by omega⟩, _, by show 63 - (k + 1) < 63 - k; omega, rfl, ⟨rfl, rfl, trivial⟩, trivial⟩
  ·skip
   refine bx rfl (fun _ => bf _) rfl rfl ?_
   refine aa ?_
   refine bV rfl ?_
   refine rt ?_
   repeat (first | refine cO ?_ | refine bJ ?_ | refine cR rfl ?_ | refine aY ?_ | refine aX ?_)
   exact cF rfl (fun w hw => ⟨⟨_, rfl⟩, .inr ⟨_, bG (hJx _) hw.rid⟩⟩)
 ·obtain rfl : k = 63 := by simp at hc; omega
  refine aW ?_
  repeat (first | refine cO ?_ | refine bJ ?_ | refine cR rfl ?_ | refine aY ?_ | refine aX ?_)
  refine cS rfl (fun w hw => ⟨⟨_, rfl⟩, .inl ?_⟩)
  have := bG (hJ _) hw.rid
  rw [gH]
  exact this
end
section
open Go.RowKit
attribute [local simp] aP bc aM aH aA a9 aF aE aG PLl bY ca N1l cb cf bZ aU ba aN aZ a7 J1.bk J2.bk Q6.bX
theorem OwnV.skip {L : Hl} {n : Nat} {e : TypeId} {a0 : Option Addr} {cap : Nat} {xs : List Value} (h : OwnV L n e a0 cap xs) (m : Nat) {x : Nat × List Value × TypeId} (hm : Nat.beq m n = false) : OwnV ((m, x) :: L) n e a0 cap xs := by
 rcases h with h | ⟨b, c, h1, h2, h3⟩
 ·exact .inl h
 ·exact .inr ⟨b, c, h1, by show (bif Nat.beq m n then some x else lkB L n) = _; rw [hm]; exact h2, h3⟩
def pwD (x : W12) (k : Nat) : W12 := K12.pw x (bC (D63.take k) 1)
theorem kk {k : Nat} (h : k < 63) : D63.take (k + 1) = D63.take k ++ [DGb k] := by rw [List.take_add_one, rH h]; rfl
theorem AU (x : W12) {k : Nat} (h : k < 63) (hd : DGb k = true) : K12.mul (K12.mul (pwD x k) (pwD x k)) x = pwD x (k + 1) := by
 rw [pwD, pwD, kk h, fg, hd, ← K12.pw_add, ← Nat.two_mul]; rfl
theorem AN (x : W12) {k : Nat} (h : k < 63) (hd : DGb k = false) : K12.mul (pwD x k) (pwD x k) = pwD x (k + 1) := by
 rw [pwD, pwD, kk h, fg, hd, ← K12.pw_add, ← Nat.two_mul]; rfl
theorem AH : D63 = L63 := by decide +kernel
theorem C7 (x : W12) : pwD x 63 = K12.pw x UG := by rw [pwD, List.take_of_length_le (by rw [g7]; exact Nat.le_refl _), AH, ld]
namespace Q6
end Q6
end
section
open Go.RowKit
attribute [local simp] aP bc aM aH aA a9 aF aE aG PLl bY ca N1l cb cf bZ aU ba aN aZ a7 J1.bk J2.bk Q6.bX
namespace Q6
end Q6
end
section
open Go.RowKit
attribute [local simp] aP bc aM aH aA a9 aF aE aG PLl bY ca N1l cb cf bZ aU ba aN aZ a7 J1.bk J2.bk Q6.bX
namespace Q6
/-! ### Of points of the groups -/
theorem mV (k : Nat) (hk : k ≤ 63) : 0 < bC (D63.take k) 1 ∧ bC (D63.take k) 1 < 2 ^ (k + 1) := by
 refine ⟨iG _ _ Nat.one_pos, ?_⟩
 have h := jE (D63.take k) 1
 rw [List.length_take, g7, Nat.min_eq_left hk] at h
 rw [Nat.pow_succ]
 omega
theorem Co {k : Nat} (hk : k < 63) : 2 * bC (D63.take k) 1 + 1 < ORD := by
 have h := (mV k (by omega)).2
 have h2 : 2 ^ (k + 1) ≤ 2 ^ 63 := Nat.pow_le_pow_right (by omega) (by omega)
 have h3 : 2 * 2 ^ 63 + 1 < ORD := by decide +kernel
 omega
end Q6
end
end Go.Proofs.YtpnpiblphnpfiaaGreatDoor
