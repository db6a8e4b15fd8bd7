/-
 The program's digits.
 The reference's digits; to the power of x; the sixth.
 The reference's sixth, the power of p, the long power; the laws' gone.
 The reference's value of a pair.
-/
import Derived.Test.YtpnpiblphnpfiaaGreatDoorXH
import Derived.Test.YtpnpiblphnpfiaaGreatDoorX3
import Derived.Test.YtpnpiblphnpfiaaGreatDoorX5
import Derived.Test.YtpnpiblphnpfiaaGreatDoorXA
set_option maxRecDepth 100000
set_option maxHeartbeats 1000000
namespace Go.Proofs.YtpnpiblphnpfiaaGreatDoor
section
open Go.RowKit
attribute [local simp] aL ba aI aH aB bc aF aE aG PLl cf cb N1l ca bY ce aR a9 aJ aW a5
theorem rTA {Q P : Prop} (k : Q) (h : Q → P := by intro k; (refine LY.run ?_); (repeat (first | refine bK rfl rfl rfl ?_ | refine bk rfl rfl rfl ?_)); (first | refine cn ?_ | refine LY.mk ?_); exact k) : P := h k
theorem pTA {Q P : Prop} (k : Q) (h : Q → P := by intro k; (refine xp ?_); (refine rTA ?_); exact k) : P := h k
theorem ent159 : ae Tryz.prog 159 := fun _ _ => by kernel_rfl
theorem AH : Pure Tryz.prog Gt 159 [U64 15132376222941642752#64] (I 64) := by
 refine a7 Tryz.func159 fun w hw hGF => ?_
 refine pTA ?_
 refine aj ?_
 refine pTA ?_
 refine aM true rfl rfl (fun _ => rfl) (fun _ => gi _ _ _) (by decide) rfl rfl ?_
 refine aa ?_
 refine bF rfl ?_
 refine pTA ?_
 refine ah (v := U64 3523280896#64) rfl rfl (fun _ => rfl) (fun _ => (cD _ _ 32#64).trans (by rfl)) rfl rfl ?_
 refine rTA ?_
 refine av (E := EE []) ?_
 refine rTA ?_
 refine aj ?_
 refine pTA ?_
 refine aM true rfl rfl (fun _ => rfl) (fun _ => gi _ _ _) (by decide) rfl rfl ?_
 refine aa ?_
 refine bF rfl ?_
 refine pTA ?_
 refine ah (v := U64 53761#64) rfl rfl (fun _ => rfl) (fun _ => (cD _ _ 16#64).trans (by rfl)) rfl rfl ?_
 refine rTA ?_
 refine av (E := EE []) ?_
 refine rTA ?_
 refine ah (v := I 48) rfl rfl (fun _ => rfl) (fun _ => (aO _ _ _ (by unfold inI; decide)).trans (by rfl)) rfl rfl ?_
 refine rTA ?_
 refine aj ?_
 refine pTA ?_
 refine aM true rfl rfl (fun _ => rfl) (fun _ => gi _ _ _) (by decide) rfl rfl ?_
 refine aa ?_
 refine bF rfl ?_
 refine pTA ?_
 refine ah (v := U64 210#64) rfl rfl (fun _ => rfl) (fun _ => (cD _ _ 8#64).trans (by rfl)) rfl rfl ?_
 refine rTA ?_
 refine av (E := EE []) ?_
 refine rTA ?_
 refine ah (v := I 56) rfl rfl (fun _ => rfl) (fun _ => (aO _ _ _ (by unfold inI; decide)).trans (by rfl)) rfl rfl ?_
 refine rTA ?_
 refine pTA ?_
 refine ju rfl rfl (fun _ => i1 Tryz.underlying24 Tryz.underlying5 _) rfl rfl ?_
 refine zi (n := 8#8) rfl rfl Tryz.underlying9 (by decide) (by kernel_rfl) rfl rfl ?_
 refine ju rfl rfl (fun _ => s6 Tryz.underlying5 Tryz.underlying3 _) rfl rfl ?_
 refine ah (v := I 64) rfl rfl (fun _ => rfl) (fun _ => (aO _ _ _ (by unfold inI; decide)).trans (by rfl)) rfl rfl ?_
 refine rTA ?_
 refine rt ?_
 exact aV rfl rfl (fun w hw => ⟨rfl, ac hw⟩)
theorem pj : Pure Tryz.prog Gt 112 [] (.func (.func 158) #[] #[]) := by
 refine a7 Tryz.func112 fun w hw hGF => ?_
 refine pTA ?_
 refine pTA ?_
 refine rt ?_
 exact aV rfl rfl (fun w hw => ⟨rfl, ac hw⟩)
def DGb (k : Nat) : Bool := 15132376222941642752#64 >>> (62 - k) &&& 1#64 == 1#64
def D63 : List Bool := (List.range 63).map DGb
theorem g9 : D63.length = 63 := by rw [D63, List.length_map, List.length_range]
theorem qt {k : Nat} (h : k < 63) : D63[k]? = some (DGb k) := by rw [D63, List.getElem?_map, List.getElem?_range h]; rfl
def DGs : List (List Value) := D63.map fun d => [.bool d]
theorem gE : DGs.length = 63 := by rw [DGs, List.length_map, g9]
theorem qI {k : Nat} (h : k < 63) : DGs[k]? = some [.bool (DGb k)] := by rw [DGs, List.getElem?_map, qt h]; rfl
theorem m6 {k : Nat} {v : List Value} (h : DGs[k]? = some v) : k < 63 ∧ v = [.bool (DGb k)] := by
 have hk : k < 63 := by
  rcases Nat.lt_or_ge k 63 with hk | hk
  ·exact hk
  ·rw [List.getElem?_eq_none (by rw [gE]; exact hk)] at h; cases h
 exact ⟨hk, (Option.some.inj ((qI hk).symm.trans h)).symm⟩
theorem io : fO Tryz.prog Gt 158 [] DGs (fun _ => True) := by
 intro l J Jx hJ hJx hRd hGx hY w hj
 have okJ : ∀ k, BOk Gt (Bi w (fun Y => J Y k)) := fun k => ⟨fun _ _ _ h => (hRd _ _ _ h.rid).1, hJ k⟩
 have okX : ∀ k, BOk Gt (Bi w (fun Y => Jx Y k)) := fun k => ⟨fun _ _ _ h => hGx _ _ _ h.rid, hJx k⟩
 refine aN (G := Gt) Tryz.func158 rfl rfl (Hp (Bi w (fun Y => J Y 0)) []) (aZ (Bi w _) hj (hJ 0)) (ap (okJ 0)) ?_
 refine xp ?_
 refine lc ent159 (AH) ?_
 refine ah (v := I 62) rfl rfl (fun _ => rfl) (fun _ => (bL _ _ _ (by unfold inI; decide)).trans (by rfl)) rfl rfl ?_
 refine rTA ?_
 refine am ?_
 refine iC (ι := { k : Nat // k ≤ 63 }) (fun x => [(0, .func (.yield l) #[] #[]), (2, I (62 - (x.1 : Int)))]) (fun x => Bi w (fun Y => J Y x.1)) (fun x => []) (fun x => 63 - x.1) ⟨0, Nat.zero_le _⟩ (fun _ => okJ _) rfl ⟨rfl, rfl, trivial⟩ trivial ?_
 rintro ⟨k, hk⟩
 dsimp only
 refine aj ?_
 refine pTA ?_
 refine ah (v := .bool (decide (k < 63))) rfl rfl (fun _ => rfl) (fun _ => (gu _ _ _).trans (by rw [show decide ((62 - (k : Int)) ≥ 0) = decide (k < 63) from decide_eq_decide.2 (by omega)])) rfl rfl ?_
 refine aa ?_
 refine bZ rfl (fun hc => ?_) (fun hc => ?_)
 ·have hk2 : k < 63 := by simpa using hc
  refine aD ?_
  refine aj ?_
  refine am ?_
  refine pTA ?_
  refine ah (v := U64 (15132376222941642752#64 >>> (62 - k))) rfl rfl (fun _ => rfl) (fun _ => (eZ _ _ _ (by omega)).trans (by rw [show (62 - (k : Int)).toNat = 62 - k by omega])) rfl rfl ?_
  refine ah (v := U64 (15132376222941642752#64 >>> (62 - k) &&& 1#64)) rfl rfl (fun _ => rfl) (fun _ => dz _ _ 1#64) rfl rfl ?_
  refine ah (v := .bool (DGb k)) rfl rfl (fun _ => rfl) (fun _ => bw _ _ 1#64) rfl rfl ?_
  refine ej (hY.b (k := k) (qI hk2) w) (okJ _) (okX _) rfl rfl rfl rfl rfl ?_ ?_
  ·skip
   refine bH rfl (fun _ => bt _) rfl rfl ?_
   refine aa ?_
   refine bg rfl ?_
   refine aD ?_
   refine av (E := EE []) ?_
   refine rTA ?_
   refine ah (v := I (62 - ((k + 1 : Nat) : Int))) rfl rfl (fun _ => rfl) (fun _ => (bL _ _ _ (by unfold inI; omega)).trans (by rw [show 62 - (k : Int) - 1 = 62 - ((k + 1 : Nat) : Int) by omega])) rfl rfl ?_
   refine rTA ?_
   repeat (refine a6 ?_)
   refine bC ?_
   exact ⟨rfl, ⟨k + 1, by omega⟩, _, by show 63 - (k + 1) < 63 - k; omega, rfl, ⟨rfl, rfl, trivial⟩, trivial⟩
  ·skip
   refine bH rfl (fun _ => bt _) rfl rfl ?_
   refine aa ?_
   refine bF rfl ?_
   refine rt ?_
   repeat (first | refine ep ?_ | refine bX ?_ | refine eB rfl ?_ | refine aQ ?_ | refine aP ?_)
   exact dv rfl (fun w hw => ⟨⟨_, rfl⟩, .inr ⟨_, cv (hJx _) hw.rid⟩⟩)
 ·obtain rfl : k = 63 := by simp at hc; omega
  refine bf ?_
  repeat (first | refine ep ?_ | refine bX ?_ | refine eB rfl ?_ | refine aQ ?_ | refine aP ?_)
  refine dY rfl (fun w hw => ⟨⟨_, rfl⟩, .inl ?_⟩)
  have := cv (hJ _) hw.rid
  rw [gE]
  exact this
end
section
open Go.RowKit
attribute [local simp] aL ba aI aH aB bc aF aE aG PLl cf cb N1l ca bY ce aR a9 aJ aW a5 J1.bd J2.bd Q6.bQ
theorem OwnV.skip {L : Hl} {n : Nat} {e : TypeId} {a0 : Option Addr} {cap : Nat} {xs : List Value} (h : OwnV L n e a0 cap xs) (m : Nat) {x : Nat × List Value × TypeId} (hm : Nat.beq m n = false) : OwnV ((m, x) :: L) n e a0 cap xs := by
 rcases h with h | ⟨b, c, h1, h2, h3⟩
 ·exact .inl h
 ·exact .inr ⟨b, c, h1, by show (bif Nat.beq m n then some x else lkB L n) = _; rw [hm]; exact h2, h3⟩
def pwD (x : W12) (k : Nat) : W12 := K12.pw x (bD (D63.take k) 1)
theorem km {k : Nat} (h : k < 63) : D63.take (k + 1) = D63.take k ++ [DGb k] := by rw [List.take_add_one, qt h]; rfl
theorem Ax (x : W12) {k : Nat} (h : k < 63) (hd : DGb k = true) : K12.mul (K12.mul (pwD x k) (pwD x k)) x = pwD x (k + 1) := by
 rw [pwD, pwD, km h, fo, hd, ← K12.pw_add, ← Nat.two_mul]; rfl
theorem zu (x : W12) {k : Nat} (h : k < 63) (hd : DGb k = false) : K12.mul (pwD x k) (pwD x k) = pwD x (k + 1) := by
 rw [pwD, pwD, km h, fo, hd, ← K12.pw_add, ← Nat.two_mul]; rfl
theorem z6 : D63 = L63 := by decide +kernel
theorem Cc (x : W12) : pwD x 63 = K12.pw x UG := by rw [pwD, List.take_of_length_le (by rw [g9]; exact Nat.le_refl _), z6, rS]
namespace Q6
end Q6
end
section
open Go.RowKit
attribute [local simp] aL ba aI aH aB bc aF aE aG PLl cf cb N1l ca bY ce aR a9 aJ aW a5 J1.bd J2.bd Q6.bQ
namespace Q6
end Q6
end
section
open Go.RowKit
attribute [local simp] aL ba aI aH aB bc aF aE aG PLl cf cb N1l ca bY ce aR a9 aJ aW a5 J1.bd J2.bd Q6.bQ
namespace Q6
/-! ### Of points of the groups -/
theorem mw (k : Nat) (hk : k ≤ 63) : 0 < bD (D63.take k) 1 ∧ bD (D63.take k) 1 < 2 ^ (k + 1) := by
 refine ⟨iR _ _ Nat.one_pos, ?_⟩
 have h := jH (D63.take k) 1
 rw [List.length_take, g9, Nat.min_eq_left hk] at h
 rw [Nat.pow_succ]
 omega
theorem CS {k : Nat} (hk : k < 63) : 2 * bD (D63.take k) 1 + 1 < ORD := by
 have h := (mw k (by omega)).2
 have h2 : 2 ^ (k + 1) ≤ 2 ^ 63 := Nat.pow_le_pow_right (by omega) (by omega)
 have h3 : 2 * 2 ^ 63 + 1 < ORD := by decide +kernel
 omega
end Q6
end
end Go.Proofs.YtpnpiblphnpfiaaGreatDoor
