/-
 The reference's elements of six parts.
 The reference's elements of six parts: products, inverses.
 The reference's elements of six parts: inverses; elements of fp6 as values.
 Elements of fp6 as values; what the laws of layer 6 share.
 The walks of package fp6.
-/
import Derived.Test.YtpnpiblphnpfiaaGreatDoorXA
import Derived.Test.YtpnpiblphnpfiaaGreatDoorXD
import Derived.Test.YtpnpiblphnpfiaaGreatDoorX5
import Derived.Test.YtpnpiblphnpfiaaGreatDoorX3
set_option maxRecDepth 100000
set_option maxHeartbeats 1000000
namespace Go.Proofs.YtpnpiblphnpfiaaGreatDoor
section
open Go.RowKit
namespace Q6
attribute [local simp] aL ba aI aH aB bc aF aE aG PLl cf cb N1l ca bY ce aR a9 aJ aW a5
def FF (f : Nat → W2) (i : Nat) : List (BitVec 64) := fe2 (f i)
theorem dy (f : Nat → W2) (v : W2) (n k o : Nat) (hk : k < n) (ho : o = 12 * k) (hv : f k = v) : ∀ j u, ((fe v.1 ++ fe v.2).map U64)[j]? = some u → ((FM (FF f) n).map U64)[o + j]? = some u := by
 subst hv
 exact r8 (FF f) n k hk (aJ _) o ho
theorem my (f g : Nat → W2) (v : W2) (n k o : Nat) (hk : k < n) (ho : o = 12 * k) (hg : ∀ i, i < n → g i = if i = k then v else f i) : lay o ((fe v.1 ++ fe v.2).map U64) ((FM (FF f) n).map U64) = (FM (FF g) n).map U64 := by
 have h := mf (FF f) n k (fe2 v) hk (aJ _) o ho
 refine h.trans (congrArg (List.map U64) (il fun i hi => ?_))
 show (if i = k then fe2 v else fe2 (f i)) = fe2 (g i)
 rw [hg i hi]
 split <;> rfl
theorem nH {f g : Nat → W2} {n : Nat} (h : ∀ i, i < n → f i = g i) : FM (FF f) n = FM (FF g) n := il fun i hi => congrArg fe2 (h i hi)
theorem bQ (f : Nat → W2) (n : Nat) : (FM (FF f) n).length = 12 * n := a5 _ _
theorem p5 (A B : Nat → W2) (i j : Nat) : (if j < i + 1 then A j else B j) = if j = i then A i else (if j < i then A j else B j) := by
 by_cases h : j = i
 ·subst h; rw [if_pos (Nat.lt_succ_self _), if_pos rfl]
 ·rw [if_neg h]
  by_cases h' : j < i
  ·rw [if_pos h', if_pos (Nat.lt_succ_of_lt h')]
  ·rw [if_neg h', if_neg (fun e => h' (Nat.lt_of_le_of_ne (Nat.le_of_lt_succ e) h))]
theorem n6 (n : Nat) : FM (FF fun _ => ze2) n = FM (fun _ => List.replicate 12 0#64) n := il fun i _ => by
 show fe2 ze2 = _
 rw [show fe2 ze2 = fe 0 ++ fe 0 from rfl, kF]; rfl
attribute [local simp] bQ
end Q6
end
section
open Go.RowKit
namespace Q6
attribute [local simp] aL ba aI aH aB bc aF aE aG PLl cf cb N1l ca bY ce aR a9 aJ aW a5 bQ
end Q6
end
section
open Go.RowKit
namespace Q6
attribute [local simp] aL ba aI aH aB bc aF aE aG PLl cf cb N1l ca bY ce aR a9 aJ aW a5 bQ
section
variable {G : Cls} {ro : Option Nat} {ops : Array Oper} {N : Nat} {ds : List Deferred} {fs : List Nat} {Z : Fr → Cls → Prop} {F : Fr} {C : Cls} {rest : List Oper} {d : Nat} {ty : TypeId} {pos : String} {af : Array Edge} {gd : Option (Nat × Bool)}
end
end Q6
end
section
open Go.RowKit
theorem ent90 : ae Tryz.prog 90 := fun _ _ => by kernel_rfl
theorem ent151 : ae Tryz.prog 151 := fun _ _ => by kernel_rfl
theorem ent189 : ae Tryz.prog 189 := fun _ _ => by kernel_rfl
theorem ent197 : ae Tryz.prog 197 := fun _ _ => by kernel_rfl
theorem ent93 : ae Tryz.prog 93 := fun _ _ => by kernel_rfl
theorem ent177 : ae Tryz.prog 177 := fun _ _ => by kernel_rfl
theorem ent61 : ae Tryz.prog 61 := fun _ _ => by kernel_rfl
theorem ent84 : ae Tryz.prog 84 := fun _ _ => by kernel_rfl
theorem ent143 : ae Tryz.prog 143 := fun _ _ => by kernel_rfl
theorem ent92 : ae Tryz.prog 92 := fun _ _ => by kernel_rfl
theorem ent76 : ae Tryz.prog 76 := fun _ _ => by kernel_rfl
theorem ent163 : ae Tryz.prog 163 := fun _ _ => by kernel_rfl
theorem ent178 : ae Tryz.prog 178 := fun _ _ => by kernel_rfl
theorem ent91 : ae Tryz.prog 91 := fun _ _ => by kernel_rfl
theorem ent99 : ae Tryz.prog 99 := fun _ _ => by kernel_rfl
theorem ent17 : ae Tryz.prog 17 := fun _ _ => by kernel_rfl
namespace Q6
attribute [local simp] aL ba aI aH aB bc aF aE aG PLl cf cb N1l ca bY ce aR a9 aJ aW a5 bQ
abbrev EV6 (x : W6) : Value := .agg (((fe (x.1).1 ++ fe (x.1).2) ++ ((fe (x.2.1).1 ++ fe (x.2.1).2) ++ (fe (x.2.2).1 ++ fe (x.2.2).2))).map U64).toArray
theorem zv47 (w : World) : (zeroValue 47).run Tryz.prog w = .ok (.agg (((fe 0 ++ fe 0) ++ ((fe 0 ++ fe 0) ++ (fe 0 ++ fe 0))).map U64).toArray) w := by rw [kF]; exact (Tryz.zeroValue47 w).trans (by rfl)
theorem iq : Three Tryz.prog 47 ⟨ "C0", 33, 0, false, "", "", 0⟩ ⟨ "C1", 33, 12, false, "", "", 96⟩ ⟨ "C2", 33, 24, false, "", "", 192⟩ 12 (fe 0 ++ fe 0) (fe 0 ++ fe 0) (fe 0 ++ fe 0) := ⟨Tryz.underlying47, rfl, rfl, rfl, Tryz.sizeOf33, Tryz.sizeOf33, Tryz.sizeOf33, zv47, by simp, by simp, by simp⟩
theorem e6 {a b c a' b' c' : W2} (h1 : a = a') (h2 : b = b') (h3 : c = c') : Ending.returned (.agg (((fe (a).1 ++ fe (a).2) ++ ((fe (b).1 ++ fe (b).2) ++ (fe (c).1 ++ fe (c).2))).map U64).toArray) = .returned (.agg (((fe (a').1 ++ fe (a').2) ++ ((fe (b').1 ++ fe (b').2) ++ (fe (c').1 ++ fe (c').2))).map U64).toArray) := by rw [h1, h2, h3]
def q6 : Sh W6 := q2.two (q2.two q2 2) 2
theorem V6 (x : W6) : EV6 x = dn rid (.inl [x.1.1, x.1.2, x.2.1.1, x.2.1.2, x.2.2.1, x.2.2.2]) := by
 show Value.agg _ = Value.agg _
 rw [clv, show cel [x.1.1, x.1.2, x.2.1.1, x.2.1.2, x.2.2.1, x.2.2.2] = fe x.1.1 ++ (fe x.1.2 ++ (fe x.2.1.1 ++ (fe x.2.1.2 ++ (fe x.2.2.1 ++ fe x.2.2.2)))) from rfl]
 rw [List.append_assoc, List.append_assoc]
theorem bx {f : Nat} {a a' : List Value} {v v' : Value} (ha : a = a') (hv : v = v') (h : Pure Tryz.prog Gt f a' v') : Pure Tryz.prog Gt f a v := by rw [ha, hv]; exact h
theorem l1 {a b : Value} (h : a = b) : [a] = [b] := by rw [h]
theorem l2 {a b c d : Value} (h : a = b) (k : c = d) : [a, c] = [b, d] := by rw [h, k]
theorem l3 {a b c d e f : Value} (h : a = b) (k : c = d) (l : e = f) : [a, c, e] = [b, d, f] := by rw [h, k, l]
theorem t2 {a b c : Value} (h : a = b) : Value.tuple #[a, c] = .tuple #[b, c] := by rw [h]
end Q6
end
section
open Go.RowKit
theorem ent184 : ae Tryz.prog 184 := fun _ _ => by kernel_rfl
namespace Q6
attribute [local simp] aL ba aI aH aB bc aF aE aG PLl cf cb N1l ca bY ce aR a9 aJ aW a5 bQ
theorem rJ9 {Q P : Prop} (k : Q) (h : Q → P := by intro k; (refine LY.run ?_); (repeat (first | refine bK rfl rfl rfl ?_ | refine bk rfl rfl rfl ?_ | ((refine yH rfl rfl ?_ rfl rfl rfl rfl ?_); (· simp)) | ((refine xf rfl rfl ?_ ?_ rfl rfl rfl rfl ?_); (· simp); (· simp)) | ((refine yG rfl rfl ?_ ?_ ?_ rfl rfl rfl rfl ?_); (· simp); (· simp); (· simp)) | ((refine vm rfl rfl ?_ rfl rfl ?_); (· simp)) | ((refine El rfl rfl ?_ rfl rfl ?_); (· simp)) | ((refine EW rfl rfl ?_ rfl rfl ?_); (· simp)) | ((refine xU hGF rfl rfl rfl ?_ ?_ (ak _) rfl ?_); (· simp); (· simp)) | ((refine Fq hGF rfl rfl rfl ?_ ?_ (ak _) rfl ?_); (· simp); (· simp)) | ((refine ER hGF rfl rfl rfl ?_ ?_ (ak _) rfl ?_); (· simp); (· simp)) | refine bP (f := 153) rfl rfl ent153 (Av _ _) rfl rfl ?_ | refine bP (f := 130) rfl rfl ent130 (kT _ _) rfl rfl ?_ | refine bP (f := 154) rfl rfl ent154 (tM _ _) rfl rfl ?_ | refine bP (f := 155) rfl rfl ent155 (Gh _) rfl rfl ?_ | refine bP (f := 129) rfl rfl ent129 (oe _) rfl rfl ?_)); (first | refine cn ?_ | refine LY.mk ?_); exact k) : P := h k
theorem pJ9 {Q P : Prop} (k : Q) (h : Q → P := by intro k; (refine xp ?_); (refine rJ9 ?_); exact k) : P := h k
def p3 (x : W6) : Nat → W2
 | 0 => x.1
 | 1 => x.2.1
 | _ => x.2.2
theorem zv178 (w : World) : (zeroValue 178).run Tryz.prog w = .ok (.agg ((FM (FF fun _ => ze2) 3).map U64).toArray) w := by
 rw [n6]; exact (Tryz.zeroValue178 w).trans (by rfl)
abbrev TV3 (f : Nat → W2) : Value := .agg ((FM (FF f) 3).map U64).toArray
theorem iQ (f : Nat → W2) (i : Nat) : (FF f i).length = 12 := aJ _
attribute [local simp] iQ
theorem Bv {x y : W6} (h : ∀ j, j < 3 → p3 x j = p3 y j) : x = y := Prod.ext (h 0 (by decide)) (Prod.ext (h 1 (by decide)) (h 2 (by decide)))
theorem D8 {Q : Nat → Prop} {k : Nat} (h : ∀ j, j < k → Q j) (hk : Q k) : ∀ j, j < k + 1 → Q j := fun j hj => by
 rcases Nat.lt_or_ge j k with h1 | h1
 ·exact h j h1
 ·obtain rfl : j = k := by omega
  exact hk
theorem ti (x : W6) : Pure Tryz.prog Gt 151 [EV6 x] (TV3 (p3 x)) := by
 refine a7 Tryz.func151 fun w hw hGF => ?_
 refine xp ?_
 refine lb fun b1 => ?_
 refine la zv178 fun b2 => ?_
 refine aa ?_
 refine pJ9 ?_
 refine yv (FF (p3 x)) rfl rfl rfl Tryz.underlying178 Tryz.sizeOf33 zv178 (aJ _) (aJ _) (aJ _) rfl rfl ?_
 refine rJ9 ?_
 refine rt ?_
 exact aw 2 rfl rfl rfl Tryz.isAgg178 Tryz.sizeOf178 (by simp) (fun w hw => ⟨rfl, ac hw⟩)
theorem k6of (f : Nat → W2) : Pure Tryz.prog Gt 189 [TV3 f] (EV6 (f 0, f 1, f 2)) := by
 refine a7 Tryz.func189 fun w hw hGF => ?_
 refine xp ?_
 refine lb fun b1 => ?_
 refine la zv47 fun b2 => ?_
 refine aa ?_
 refine xp ?_
 refine cZ (0) (12 * (0)) rfl rfl Tryz.underlying178 Tryz.sizeOf33 (by omega) (by omega) (by omega) rfl rfl ?_
 refine a8 1 ((fe (f 0).1 ++ fe (f 0).2).map U64) rfl rfl Tryz.isAgg33 Tryz.sizeOf33 (by simp) (dy _ (f 0) 3 (0) _ (by omega) rfl (rfl)) rfl rfl ?_
 refine cZ (1) (12 * (1)) rfl rfl Tryz.underlying178 Tryz.sizeOf33 (by omega) (by omega) (by omega) rfl rfl ?_
 refine a8 1 ((fe (f 1).1 ++ fe (f 1).2).map U64) rfl rfl Tryz.isAgg33 Tryz.sizeOf33 (by simp) (dy _ (f 1) 3 (1) _ (by omega) rfl (rfl)) rfl rfl ?_
 refine cZ (2) (12 * (2)) rfl rfl Tryz.underlying178 Tryz.sizeOf33 (by omega) (by omega) (by omega) rfl rfl ?_
 refine a8 1 ((fe (f 2).1 ++ fe (f 2).2).map U64) rfl rfl Tryz.isAgg33 Tryz.sizeOf33 (by simp) (dy _ (f 2) 3 (2) _ (by omega) rfl (rfl)) rfl rfl ?_
 refine dH iq rfl rfl rfl (by simp) (by simp) (by simp) rfl rfl ?_
 refine rJ9 ?_
 refine rt ?_
 exact aw 2 rfl rfl rfl Tryz.isAgg47 Tryz.sizeOf47 (by simp) (fun w hw => ⟨rfl, ac hw⟩)
theorem eY (x : W6) (w : World) (hw : Gt w) : Calls Tryz.prog 143 [EV6 x].toArray w (fun e w' => ∃ b1, e = .returned (.func (.func 184) #[] #[.pointer (some ⟨b1, 0, none⟩)]) ∧ Grow w w' ∧ w.heap.size ≤ b1 ∧ OwnB w' b1 (((fe (x.1).1 ++ fe (x.1).2) ++ ((fe (x.2.1).1 ++ fe (x.2.1).2) ++ (fe (x.2.2).1 ++ fe (x.2.2).2))).map U64) 47) := by
 have hGF : BOk Gt (pl w) := gt_low.plain hw
 refine aN (G := Gt) Tryz.func143 rfl rfl (Hp (pl w) []) (aZ (pl w) trivial ai) (ap hGF) ?_
 refine xp ?_
 refine lb fun b1 => ?_
 refine rJ9 ?_
 refine xp ?_
 refine ib rfl rfl rfl rfl ?_
 refine rJ9 ?_
 refine rt ?_
 exact aV rfl rfl (fun w hw => ⟨b1, rfl, ac hw, (hw.own 1 b1 _ _ rfl).2.elim id False.elim, (hw.own 1 b1 _ _ rfl).1⟩)
def PS (x : W6) : List (List Value) := (List.range 3).map fun (k : Nat) => [I (k : Int), EV2 (p3 x k)]
theorem k4 (x : W6) : (PS x).length = 3 := by rw [PS, List.length_map, List.length_range]
theorem vV (x : W6) (k : Nat) (h : k < 3) : (PS x)[k]? = some [I (k : Int), EV2 (p3 x k)] := by
 rw [PS, List.getElem?_map, List.getElem?_range h]; rfl
theorem tj (x : W6) (k : Nat) (v : List Value) (h : (PS x)[k]? = some v) : k < 3 ∧ v = [I (k : Int), EV2 (p3 x k)] := by
 have hk : k < 3 := by
  rcases Nat.lt_or_ge k 3 with hk | hk
  ·exact hk
  ·rw [List.getElem?_eq_none (by rw [k4]; exact hk)] at h; cases h
 exact ⟨hk, (Option.some.inj ((vV x k hk).symm.trans h)).symm⟩
def RdP (bb : Nat) (x : W6) : Cls := fun w => w.rangeAt bb 0 (((fe (x.1).1 ++ fe (x.1).2) ++ ((fe (x.2.1).1 ++ fe (x.2.1).2) ++ (fe (x.2.2).1 ++ fe (x.2.2).2))).map U64)
theorem vD (bb : Nat) (x : W6) : fO Tryz.prog Gt 184 [.pointer (some ⟨bb, 0, none⟩)] (PS x) (RdP bb x) := by
 intro l J Jx hJ hJx hRd hGx hY w hj
 have okJ : ∀ k, BOk Gt (Bi w (fun Y => J Y k)) := fun k => ⟨fun _ _ _ h => (hRd _ _ _ h.rid).1, hJ k⟩
 have okX : ∀ k, BOk Gt (Bi w (fun Y => Jx Y k)) := fun k => ⟨fun _ _ _ h => hGx _ _ _ h.rid, hJx k⟩
 have c1 : ∀ k L w', Hp (Bi w (fun Y => J Y k)) L w' → RdP bb x w' := fun k L w' h => (hRd _ _ _ h.rid).2
 refine aN (G := Gt) Tryz.func184 rfl rfl (Hp (Bi w (fun Y => J Y 0)) []) (aZ (Bi w _) hj (hJ 0)) (ap (okJ 0)) ?_
 refine xp ?_
 refine dK rfl Tryz.isAgg47 Tryz.sizeOf47 (by simp) (fun w h => c1 _ _ w h) rfl rfl ?_
 refine lc ent151 (ti _) ?_
 refine rJ9 ?_
 refine am ?_
 refine iC (ι := { i : Nat // i ≤ 3 }) (fun y => [(0, .func (.yield l) #[] #[]), (1, .pointer (some ⟨bb, 0, none⟩)), (6, TV3 (p3 x)), (7, I (y.1 : Int))]) (fun y => Bi w (fun Y => J Y y.1)) (fun y => []) (fun y => 3 - y.1) ⟨0, Nat.zero_le _⟩ (fun _ => okJ _) rfl ⟨rfl, rfl, rfl, rfl, trivial⟩ trivial ?_
 rintro ⟨i, hi⟩
 dsimp only
 refine xp ?_
 refine ah rfl rfl (fun _ => rfl) (fun _ => aA _ _ _) rfl rfl ?_
 refine aa ?_
 refine aj ?_
 refine bZ rfl (fun hc => ?_) (fun hc => ?_)
 ·have hi2 : i < 3 := by simp at hc; omega
  refine aD ?_
  refine aj ?_
  refine am ?_
  refine pJ9 ?_
  refine rW (FF (p3 x)) (i) rfl rfl Tryz.underlying178 Tryz.sizeOf33 Tryz.isAgg33 (by omega) (by omega) (aJ _) rfl rfl ?_
  refine bM 4 (okJ _) zv33 rfl rfl ?_
  intro b4
  refine rJ9 ?_
  refine ao 4 (okJ _) rfl rfl rfl Tryz.sizeOf33 (by simp) (by simp) (ak _) rfl ?_
  refine aa ?_
  refine pJ9 ?_
  refine ej (hY.b (k := i) (vV x i (by omega)) w) (okJ _) (okX _) rfl rfl rfl rfl rfl ?_ ?_
  ·skip
   refine bH rfl (fun _ => bt _) rfl rfl ?_
   refine aa ?_
   refine bg rfl ?_
   refine aD ?_
   refine av (E := EE []) ?_
   refine ah rfl rfl (fun _ => rfl) (fun _ => aO _ _ _ (by unfold inI; omega)) rfl rfl ?_
   refine rJ9 ?_
   repeat (refine a6 ?_)
   refine bC ?_
   exact ⟨rfl, ⟨i + 1, by omega⟩, _, by show 3 - (i + 1) < 3 - i; omega, rfl, ⟨rfl, rfl, rfl, rfl, trivial⟩, trivial⟩
  ·skip
   refine bH rfl (fun _ => bt _) rfl rfl ?_
   refine aa ?_
   refine bF rfl ?_
   refine rt ?_
   repeat (first | refine ep ?_ | refine bX ?_ | refine eB rfl ?_ | refine aQ ?_ | refine aP ?_)
   exact dv rfl (fun w hw => ⟨⟨_, rfl⟩, .inr ⟨_, cv (hJx _) hw.rid⟩⟩)
 ·obtain rfl : i = 3 := by simp at hc; omega
  refine bf ?_
  repeat (first | refine ep ?_ | refine bX ?_ | refine eB rfl ?_ | refine aQ ?_ | refine aP ?_)
  refine dY rfl (fun w hw => ⟨⟨_, rfl⟩, .inl ?_⟩)
  have := cv (hJ _) hw.rid
  rw [k4]
  exact this
theorem Aw  : Pure Tryz.prog Gt 61 [] (EV6 K6.one) := (bx rfl (V6 _) (pE TO30 Tryz.func61 [] (.inl (.inl [K6.one.1.1, K6.one.1.2, K6.one.2.1.1, K6.one.2.1.2, K6.one.2.2.1, K6.one.2.2.2])) (let t0 := on2; (.inl (.inl [t0.1, t0.2, 0, 0, 0, 0]), [])) [] (by kernel_rfl) aT rfl))
theorem vH {f : Nat} {g : W6} (en : ae Tryz.prog f) (h : Pure Tryz.prog Gt f [] (EV6 g)) : Snd Tryz.prog Gt f (c0 q6.rd g) := nf q6.rd en (bx rfl (V6 _).symm h)
def TO43 : Tb Tryz.prog Gt := TO30.add (vH (g := K6.one) ent61 Aw)
theorem jz (x y : W6) : Pure Tryz.prog Gt 84 [EV6 x, EV6 y] (.bool (decide (x = y))) := by
 intro w hw
 have hGF : BOk Gt (pl w) := gt_low.plain hw
 refine bE (G := Gt) Tryz.func84 rfl rfl (Hp (pl w) []) (aZ (pl w) trivial ai) (ap hGF) ?_
 refine ab (E := EE [143]) ?_
 refine lb fun b2 => ?_
 refine lb fun b3 => ?_
 refine dI 4 hGF Tryz.zeroValue4 rfl rfl ?_
 intro b4
 refine aa ?_
 refine ab (E := EE [143]) ?_
 refine rJ9 ?_
 refine lc ent151 (ti _) ?_
 refine la zv178 fun b5 => ?_
 refine rJ9 ?_
 refine aj ?_
 refine ab (E := EE [143]) ?_
 refine rJ9 ?_
 refine cz rfl rfl ent143 rfl rfl (fun w' hw' => (eY x w' (hGF.g _ _ _ hw')).mono fun e' w'' h => ?_)
 obtain ⟨c1, rfl, hg, h1, ho⟩ := h
 refine ⟨_, _, rfl, ap hGF, hw'.news ai hg [(33, c1, ((fe (x.1).1 ++ fe (x.1).2) ++ ((fe (x.2.1).1 ++ fe (x.2.1).2) ++ (fe (x.2.2).1 ++ fe (x.2.2).2))).map U64, 47)] ?_ di, ?_⟩
 ·intro n' b' c' t' hl
  rcases bh hl with ⟨_, e⟩ | ⟨_, hl⟩
  ·cases e; exact ⟨h1, ho⟩
  ·cases hl
 clear hw' hg h1 ho
 refine aa ?_
 refine am ?_
 refine nY (fun k => ∀ j, j < k → p3 x j = p3 y j) (fun _ => pl w) (fun _ _ => pl w) (fun _ => hGF) (fun _ _ => hGF) (fun _ => rfl) (fun _ _ => rfl) rfl rfl ent184 (vD c1 x) (fun v hv => by obtain ⟨k, hk, rfl⟩ := List.mem_map.1 hv; rfl) rfl (fun k => [(2, b2, ((fe (x.1).1 ++ fe (x.1).2) ++ ((fe (x.2.1).1 ++ fe (x.2.1).2) ++ (fe (x.2.2).1 ++ fe (x.2.2).2))).map U64, 47), (3, b3, ((fe (y.1).1 ++ fe (y.1).2) ++ ((fe (y.2.1).1 ++ fe (y.2.1).2) ++ (fe (y.2.2).1 ++ fe (y.2.2).2))).map U64, 47), (4, b4, [.bool false], 4), (5, b5, (FM (FF (p3 y)) 3).map U64, 178), (33, c1, ((fe (x.1).1 ++ fe (x.1).2) ++ ((fe (x.2.1).1 ++ fe (x.2.1).2) ++ (fe (x.2.2).1 ++ fe (x.2.2).2))).map U64, 47)]) (fun c _ L' => c = .ret ∧ lkB L' 4 = some (b4, [.bool false], 4) ∧ ¬ x = y) (fun j h => absurd h (Nat.not_lt_zero j)) ⟨rfl, rfl, rfl, rfl, rfl, trivial⟩ (fun k _ w' h => cx (n := 33) rfl w' h) ?_ ?_ ?_ (fun D c k L' hD h => by obtain ⟨rfl, hl, hne⟩ := h; refine nz ?_; refine aP ?_; refine aQ ?_; exact (cr (.inl rfl) ai (gD 4 rfl rfl hl Tryz.isAgg4 (fun w hw => ⟨congrArg (fun b => Ending.returned (.bool b)) (decide_eq_false hne).symm, ac hw⟩))))
 ·intro k v hx hQ R hR
  obtain ⟨hk, rfl⟩ := tj x k v hx
  refine ab (E := EE [143]) ?_
  refine rJ9 ?_
  refine av (E := EE [143]) ?_
  refine bM 7 (hR (pl w) rfl hGF).1 zv33 rfl rfl ?_
  intro b7
  refine ao 7 (hR (pl w) rfl hGF).1 rfl rfl rfl Tryz.sizeOf33 (by simp) (by simp) (ak _) rfl ?_
  refine aa ?_
  refine ⟨rfl, _, rfl, ?_⟩
  refine am ?_
  refine bl (E := EE [143]) bi (by kernel_rfl) (by kernel_rfl) (by kernel_rfl) ?_
  refine rJ9 ?_
  refine cZ (k) (12 * (k)) rfl rfl Tryz.underlying178 Tryz.sizeOf33 (by omega) (by omega) (by omega) rfl rfl ?_
  refine a8 5 ((fe (p3 y k).1 ++ fe (p3 y k).2).map U64) rfl rfl Tryz.isAgg33 Tryz.sizeOf33 (by simp) (dy _ (p3 y k) 3 (k) _ (by omega) rfl (rfl)) rfl rfl ?_
  refine lc ent152 (rQ _ _) ?_
  refine bH rfl (fun _ => bt _) rfl rfl ?_
  refine aa ?_
  refine bZ rfl (fun hc => ?_) (fun hc => ?_)
  ·have hc : ¬ p3 x k = p3 y k := by simpa using hc
   refine ab (E := EE [143]) ?_
   refine cu 4 (hR (pl w) rfl hGF).2.1 rfl rfl rfl Tryz.sizeOf4 rfl (by simp [*]) rfl ?_
   refine aa ?_
   refine rt ?_
   repeat (first | refine aQ ?_ | refine aP ?_)
   exact ⟨_, rfl, rfl, rfl, fun e => hc (by rw [e])⟩
  ·have hc : p3 x k = p3 y k := by simpa using hc
   refine aD ?_
   repeat (refine a6 ?_)
   exact ⟨_, rfl, CK (D8 hQ hc) ⟨rfl, rfl, rfl, rfl, rfl, trivial⟩⟩
 ·intro hQ D hD
  rw [k4] at *
  have hxy := Bv hQ
  refine ab (E := EE [143]) ?_
  refine cu 4 hD rfl rfl rfl Tryz.sizeOf4 rfl (by simp [*]) rfl ?_
  refine aa ?_
  refine rt ?_
  exact cr (.inl rfl) ai (gD 4 rfl rfl rfl Tryz.isAgg4 (fun w hw => ⟨congrArg (fun b => Ending.returned (.bool b)) (decide_eq_true hxy).symm, ac hw⟩))
 ·intro D hb
  refine a6 ?_
  refine bC ?_
  exact kt hb
theorem FT {x : W6} {k : Nat} (hk : k < 3) (h : ¬ p3 x k = ze2) : ¬ x = K6.zero := fun e => h (by
 subst e
 match k, hk with
 | 0, _ => rfl
 | 1, _ => rfl
 | 2, _ => rfl)
theorem Gi {x : W6} (h : ∀ j, j < 3 → p3 x j = ze2) : x = K6.zero := Prod.ext (h 0 (by decide)) (Prod.ext (h 1 (by decide)) (h 2 (by decide)))
theorem hH (x : W6) : Pure Tryz.prog Gt 76 [EV6 x] (.bool (decide (x = K6.zero))) := by
 intro w hw
 have hGF : BOk Gt (pl w) := gt_low.plain hw
 refine bE (G := Gt) Tryz.func76 rfl rfl (Hp (pl w) []) (aZ (pl w) trivial ai) (ap hGF) ?_
 refine ab (E := EE [143]) ?_
 refine lb fun b1 => ?_
 refine dI 2 hGF Tryz.zeroValue4 rfl rfl ?_
 intro b2
 refine aa ?_
 refine aj ?_
 refine ab (E := EE [143]) ?_
 refine rJ9 ?_
 refine cz rfl rfl ent143 rfl rfl (fun w' hw' => (eY x w' (hGF.g _ _ _ hw')).mono fun e' w'' h => ?_)
 obtain ⟨c1, rfl, hg, h1, ho⟩ := h
 refine ⟨_, _, rfl, ap hGF, hw'.news ai hg [(33, c1, ((fe (x.1).1 ++ fe (x.1).2) ++ ((fe (x.2.1).1 ++ fe (x.2.1).2) ++ (fe (x.2.2).1 ++ fe (x.2.2).2))).map U64, 47)] ?_ di, ?_⟩
 ·intro n' b' c' t' hl
  rcases bh hl with ⟨_, e⟩ | ⟨_, hl⟩
  ·cases e; exact ⟨h1, ho⟩
  ·cases hl
 clear hw' hg h1 ho
 refine aa ?_
 refine am ?_
 refine nY (fun k => ∀ j, j < k → p3 x j = ze2) (fun _ => pl w) (fun _ _ => pl w) (fun _ => hGF) (fun _ _ => hGF) (fun _ => rfl) (fun _ _ => rfl) rfl rfl ent184 (vD c1 x) (fun v hv => by obtain ⟨k, hk, rfl⟩ := List.mem_map.1 hv; rfl) rfl (fun k => [(1, b1, ((fe (x.1).1 ++ fe (x.1).2) ++ ((fe (x.2.1).1 ++ fe (x.2.1).2) ++ (fe (x.2.2).1 ++ fe (x.2.2).2))).map U64, 47), (2, b2, [.bool false], 4), (33, c1, ((fe (x.1).1 ++ fe (x.1).2) ++ ((fe (x.2.1).1 ++ fe (x.2.1).2) ++ (fe (x.2.2).1 ++ fe (x.2.2).2))).map U64, 47)]) (fun c _ L' => c = .ret ∧ lkB L' 2 = some (b2, [.bool false], 4) ∧ ¬ x = K6.zero) (fun j h => absurd h (Nat.not_lt_zero j)) ⟨rfl, rfl, rfl, trivial⟩ (fun k _ w' h => cx (n := 33) rfl w' h) ?_ ?_ ?_ (fun D c k L' hD h => by obtain ⟨rfl, hl, hne⟩ := h; refine nz ?_; refine aP ?_; refine aQ ?_; exact (cr (.inl rfl) ai (gD 2 rfl rfl hl Tryz.isAgg4 (fun w hw => ⟨congrArg (fun b => Ending.returned (.bool b)) (decide_eq_false hne).symm, ac hw⟩))))
 ·intro k v hx hQ R hR
  obtain ⟨hk, rfl⟩ := tj x k v hx
  refine av (E := EE [143]) ?_
  refine bM 4 (hR (pl w) rfl hGF).1 zv33 rfl rfl ?_
  intro b4
  refine ao 4 (hR (pl w) rfl hGF).1 rfl rfl rfl Tryz.sizeOf33 (by simp) (by simp) (ak _) rfl ?_
  refine aa ?_
  refine ⟨rfl, _, rfl, ?_⟩
  refine am ?_
  refine ab (E := EE [143]) ?_
  refine rJ9 ?_
  refine lc ent102 (ot _) ?_
  refine bH rfl (fun _ => bt _) rfl rfl ?_
  refine aa ?_
  refine bZ rfl (fun hc => ?_) (fun hc => ?_)
  ·have hc : ¬ p3 x k = ze2 := by simpa using hc
   refine ab (E := EE [143]) ?_
   refine cu 2 (hR (pl w) rfl hGF).2.1 rfl rfl rfl Tryz.sizeOf4 rfl (by simp [*]) rfl ?_
   refine aa ?_
   refine rt ?_
   repeat (first | refine aQ ?_ | refine aP ?_)
   exact ⟨_, rfl, rfl, rfl, FT hk hc⟩
  ·have hc : p3 x k = ze2 := by simpa using hc
   refine aD ?_
   repeat (refine a6 ?_)
   exact ⟨_, rfl, CK (D8 hQ hc) ⟨rfl, rfl, rfl, trivial⟩⟩
 ·intro hQ D hD
  rw [k4] at *
  have hxy := Gi hQ
  refine ab (E := EE [143]) ?_
  refine cu 2 hD rfl rfl rfl Tryz.sizeOf4 rfl (by simp [*]) rfl ?_
  refine aa ?_
  refine rt ?_
  exact cr (.inl rfl) ai (gD 2 rfl rfl rfl Tryz.isAgg4 (fun w hw => ⟨congrArg (fun b => Ending.returned (.bool b)) (decide_eq_true hxy).symm, ac hw⟩))
 ·intro D hb
  refine a6 ?_
  refine bC ?_
  exact kt hb
theorem uU (x y : W6) : Pure Tryz.prog Gt 91 [EV6 x, EV6 y] (EV6 (K6.add x y)) := (bx (l2 (V6 _) (V6 _)) (V6 _) (pE TO43 Tryz.func91 [.inl [x.1.1, x.1.2, x.2.1.1, x.2.1.2, x.2.2.1, x.2.2.2], .inl [y.1.1, y.1.2, y.2.1.1, y.2.1.2, y.2.2.1, y.2.2.2]] (.inl (.inl [(K6.add x y).1.1, (K6.add x y).1.2, (K6.add x y).2.1.1, (K6.add x y).2.1.2, (K6.add x y).2.2.1, (K6.add x y).2.2.2])) (let t0 := ad2 (x.1.1, x.1.2) (y.1.1, y.1.2); let t1 := ad2 (x.2.1.1, x.2.1.2) (y.2.1.1, y.2.1.2); let t2 := ad2 (x.2.2.1, x.2.2.2) (y.2.2.1, y.2.2.2); (.inl (.inl [t0.1, t0.2, t1.1, t1.2, t2.1, t2.2]), [])) [] (by kernel_rfl) aT rfl))
theorem bG {f : Nat} {g : W6 → W6 → W6} (en : ae Tryz.prog f) (h : ∀ a b, Pure Tryz.prog Gt f [EV6 a, EV6 b] (EV6 (g a b))) : Snd Tryz.prog Gt f (c2 q6.ag q6.ag q6.rd g) := dJ q6.ag q6.ag q6.rd en (fun a b => bx (l2 (V6 _).symm (V6 _).symm) (V6 _).symm (h a b))
def TO44 : Tb Tryz.prog Gt := TO43.add (bG (g := K6.add) ent91 uU)
theorem ve (x y : W6) : Pure Tryz.prog Gt 93 [EV6 x, EV6 y] (EV6 (sb6 x y)) := (bx (l2 (V6 _) (V6 _)) (V6 _) (pE TO44 Tryz.func93 [.inl [x.1.1, x.1.2, x.2.1.1, x.2.1.2, x.2.2.1, x.2.2.2], .inl [y.1.1, y.1.2, y.2.1.1, y.2.1.2, y.2.2.1, y.2.2.2]] (.inl (.inl [(sb6 x y).1.1, (sb6 x y).1.2, (sb6 x y).2.1.1, (sb6 x y).2.1.2, (sb6 x y).2.2.1, (sb6 x y).2.2.2])) (let t0 := sb2 (x.1.1, x.1.2) (y.1.1, y.1.2); let t1 := sb2 (x.2.1.1, x.2.1.2) (y.2.1.1, y.2.1.2); let t2 := sb2 (x.2.2.1, x.2.2.2) (y.2.2.1, y.2.2.2); (.inl (.inl [t0.1, t0.2, t1.1, t1.2, t2.1, t2.2]), [])) [] (by kernel_rfl) aT rfl))
def TO45 : Tb Tryz.prog Gt := TO44.add (bG (g := sb6) ent93 ve)
theorem wv (x : W6) : Pure Tryz.prog Gt 99 [EV6 x] (EV6 (K6.neg x)) := (bx (l1 (V6 _)) (V6 _) (pE TO45 Tryz.func99 [.inl [x.1.1, x.1.2, x.2.1.1, x.2.1.2, x.2.2.1, x.2.2.2]] (.inl (.inl [(K6.neg x).1.1, (K6.neg x).1.2, (K6.neg x).2.1.1, (K6.neg x).2.1.2, (K6.neg x).2.2.1, (K6.neg x).2.2.2])) (let t0 := ng2 (x.1.1, x.1.2); let t1 := ng2 (x.2.1.1, x.2.1.2); let t2 := ng2 (x.2.2.1, x.2.2.2); (.inl (.inl [t0.1, t0.2, t1.1, t1.2, t2.1, t2.2]), [])) [] (by kernel_rfl) aT rfl))
theorem bS {f : Nat} {g : W6 → W6} (en : ae Tryz.prog f) (h : ∀ a, Pure Tryz.prog Gt f [EV6 a] (EV6 (g a))) : Snd Tryz.prog Gt f (c1 q6.ag q6.rd g) := ei q6.ag q6.rd en (fun a => bx (l1 (V6 _).symm) (V6 _).symm (h a))
def TO46 : Tb Tryz.prog Gt := TO45.add (bS (g := K6.neg) ent99 wv)
theorem v8 (x y : W6) : Pure Tryz.prog Gt 90 [EV6 x, EV6 y] (EV6 (K6.mul x y)) := by
 refine a7 Tryz.func90 fun w hw hGF => ?_
 refine xp ?_
 refine lb fun b2 => ?_
 refine lb fun b3 => ?_
 refine la zv47 fun b4 => ?_
 refine aa ?_
 refine cg (E := EE [2999999]) [0, 1, 2, 3, 4, 5, 6, 7, 8, 9, 10, 11, 12, 13, 14] [⟨15, 5, 33, (fe 0 ++ fe 0).map U64⟩, ⟨16, 6, 33, (fe 0 ++ fe 0).map U64⟩, ⟨17, 7, 33, (fe 0 ++ fe 0).map U64⟩] [18, 19, 20] bi rfl (by kernel_rfl) (by kernel_rfl) (by kernel_rfl) (by kernel_rfl) (by kernel_rfl) (by kernel_rfl) (by decide) (by intro x hx; simp only [List.mem_cons, List.not_mem_nil, or_false] at hx; rcases hx with rfl | rfl | rfl <;> exact bB rfl zv33 rfl) ?_
 refine rJ9 ?_
 refine ⟨_, _, rfl, hGF, by intro x hx; simp only [List.mem_cons, List.not_mem_nil, or_false] at hx; rcases hx with rfl | rfl | rfl <;> rfl, by intro x hx; simp only [List.mem_cons, List.not_mem_nil, or_false] at hx; rcases hx with rfl | rfl | rfl <;> rfl, fun adr => ?_⟩
 refine rJ9 ?_
 refine cg (E := EE [2999999]) [0, 1, 2, 3, 4, 5, 6, 7, 8, 9, 10, 11, 12, 13, 14] [⟨15, 8, 33, (fe 0 ++ fe 0).map U64⟩] [16] bi rfl (by kernel_rfl) (by kernel_rfl) (by kernel_rfl) (by kernel_rfl) (by kernel_rfl) (by kernel_rfl) (by decide) (by intro x hx; simp only [List.mem_cons, List.not_mem_nil, or_false] at hx; subst hx; exact bB rfl zv33 rfl) ?_
 refine rJ9 ?_
 refine ⟨_, _, rfl, hGF, by intro x hx; simp only [List.mem_cons, List.not_mem_nil, or_false] at hx; subst hx; rfl, by intro x hx; simp only [List.mem_cons, List.not_mem_nil, or_false] at hx; subst hx; rfl, fun adr => ?_⟩
 refine rJ9 ?_
 refine cg (E := EE [2999999]) [0, 1, 2, 3, 4, 5, 6, 7, 8, 9, 10, 11, 12, 13, 14] [⟨15, 9, 33, (fe 0 ++ fe 0).map U64⟩] [16] bi rfl (by kernel_rfl) (by kernel_rfl) (by kernel_rfl) (by kernel_rfl) (by kernel_rfl) (by kernel_rfl) (by decide) (by intro x hx; simp only [List.mem_cons, List.not_mem_nil, or_false] at hx; subst hx; exact bB rfl zv33 rfl) ?_
 refine rJ9 ?_
 refine ⟨_, _, rfl, hGF, by intro x hx; simp only [List.mem_cons, List.not_mem_nil, or_false] at hx; subst hx; rfl, by intro x hx; simp only [List.mem_cons, List.not_mem_nil, or_false] at hx; subst hx; rfl, fun adr => ?_⟩
 refine rJ9 ?_
 refine cg (E := EE [2999999]) [0, 1, 2, 3, 4, 5, 6, 7, 8, 9, 10, 11, 12, 13, 14] [⟨15, 10, 33, (fe 0 ++ fe 0).map U64⟩] [16] bi rfl (by kernel_rfl) (by kernel_rfl) (by kernel_rfl) (by kernel_rfl) (by kernel_rfl) (by kernel_rfl) (by decide) (by intro x hx; simp only [List.mem_cons, List.not_mem_nil, or_false] at hx; subst hx; exact bB rfl zv33 rfl) ?_
 refine rJ9 ?_
 refine ⟨_, _, rfl, hGF, by intro x hx; simp only [List.mem_cons, List.not_mem_nil, or_false] at hx; subst hx; rfl, by intro x hx; simp only [List.mem_cons, List.not_mem_nil, or_false] at hx; subst hx; rfl, fun adr => ?_⟩
 refine rJ9 ?_
 refine bl (E := EE []) bi (by kernel_rfl) (by kernel_rfl) (by kernel_rfl) ?_
 refine rJ9 ?_
 refine dH iq rfl rfl rfl (by simp) (by simp) (by simp) rfl rfl ?_
 refine rJ9 ?_
 refine rt ?_
 exact aw 4 rfl rfl rfl Tryz.isAgg47 Tryz.sizeOf47 (by simp) (fun w hw => ⟨e6 (zq R2 [x.1, x.2.1, x.2.2, y.1, y.2.1, y.2.2, XI] (ta (tm j0 j3) (txi 6 (tsb (tsb (tm (ta j1 j2) (ta j4 j5)) (tm j1 j4)) (tm j2 j5)) rfl)) (ta (tm j0 j3) (tm j6 (ta (tm j1 j5) (tm j2 j4))))) (zq R2 [x.1, x.2.1, x.2.2, y.1, y.2.1, y.2.2, XI] (ta (tsb (tsb (tm (ta j0 j1) (ta j3 j4)) (tm j0 j3)) (tm j1 j4)) (txi 6 (tm j2 j5) rfl)) (ta (ta (tm j0 j4) (tm j1 j3)) (tm j6 (tm j2 j5)))) (zq R2 [x.1, x.2.1, x.2.2, y.1, y.2.1, y.2.2, XI] (ta (tsb (tsb (tm (ta j0 j2) (ta j3 j5)) (tm j0 j3)) (tm j2 j5)) (tm j1 j4)) (ta (ta (tm j0 j5) (tm j1 j4)) (tm j2 j3))), ac hw⟩)
def TO47 : Tb Tryz.prog Gt := TO46.add (bG (g := K6.mul) ent90 v8)
theorem kS (x : W6) : Pure Tryz.prog Gt 177 [EV6 x] (EV6 (K6.mul x x)) := by
 refine a7 Tryz.func177 fun w hw hGF => ?_
 refine xp ?_
 refine lb fun b1 => ?_
 refine la zv47 fun b2 => ?_
 refine aa ?_
 refine cg (E := EE [2999999]) [0, 1, 2, 3, 4, 5] [⟨6, 3, 33, (fe 0 ++ fe 0).map U64⟩, ⟨7, 4, 33, (fe 0 ++ fe 0).map U64⟩] [8, 9] bi rfl (by kernel_rfl) (by kernel_rfl) (by kernel_rfl) (by kernel_rfl) (by kernel_rfl) (by kernel_rfl) (by decide) (by intro x hx; simp only [List.mem_cons, List.not_mem_nil, or_false] at hx; rcases hx with rfl | rfl <;> exact bB rfl zv33 rfl) ?_
 refine rJ9 ?_
 refine ⟨_, _, rfl, hGF, by intro x hx; simp only [List.mem_cons, List.not_mem_nil, or_false] at hx; rcases hx with rfl | rfl <;> rfl, by intro x hx; simp only [List.mem_cons, List.not_mem_nil, or_false] at hx; rcases hx with rfl | rfl <;> rfl, fun adr => ?_⟩
 refine rJ9 ?_
 refine cg (E := EE [2999999]) [0, 1, 2, 3, 4, 5, 6, 7, 8, 9] [⟨10, 5, 33, (fe 0 ++ fe 0).map U64⟩, ⟨11, 6, 33, (fe 0 ++ fe 0).map U64⟩] [12, 13] bi rfl (by kernel_rfl) (by kernel_rfl) (by kernel_rfl) (by kernel_rfl) (by kernel_rfl) (by kernel_rfl) (by decide) (by intro x hx; simp only [List.mem_cons, List.not_mem_nil, or_false] at hx; rcases hx with rfl | rfl <;> exact bB rfl zv33 rfl) ?_
 refine rJ9 ?_
 refine ⟨_, _, rfl, hGF, by intro x hx; simp only [List.mem_cons, List.not_mem_nil, or_false] at hx; rcases hx with rfl | rfl <;> rfl, by intro x hx; simp only [List.mem_cons, List.not_mem_nil, or_false] at hx; rcases hx with rfl | rfl <;> rfl, fun adr => ?_⟩
 refine rJ9 ?_
 refine bl (E := EE []) bi (by kernel_rfl) (by kernel_rfl) (by kernel_rfl) ?_
 refine rJ9 ?_
 refine cg (E := EE [2999999]) [0, 1, 2, 3, 4, 5, 6, 7, 8] [⟨9, 7, 33, (fe 0 ++ fe 0).map U64⟩] [10] bi rfl (by kernel_rfl) (by kernel_rfl) (by kernel_rfl) (by kernel_rfl) (by kernel_rfl) (by kernel_rfl) (by decide) (by intro x hx; simp only [List.mem_cons, List.not_mem_nil, or_false] at hx; subst hx; exact bB rfl zv33 rfl) ?_
 refine rJ9 ?_
 refine ⟨_, _, rfl, hGF, by intro x hx; simp only [List.mem_cons, List.not_mem_nil, or_false] at hx; subst hx; rfl, by intro x hx; simp only [List.mem_cons, List.not_mem_nil, or_false] at hx; subst hx; rfl, fun adr => ?_⟩
 refine rJ9 ?_
 refine bl (E := EE []) bi (by kernel_rfl) (by kernel_rfl) (by kernel_rfl) ?_
 refine rJ9 ?_
 refine dH iq rfl rfl rfl (by simp) (by simp) (by simp) rfl rfl ?_
 refine rJ9 ?_
 refine rt ?_
 exact aw 2 rfl rfl rfl Tryz.isAgg47 Tryz.sizeOf47 (by simp) (fun w hw => ⟨e6 (zq R2 [x.1, x.2.1, x.2.2, XI] (ta (tm j0 j0) (txi 3 (ta (tm j1 j2) (tm j1 j2)) rfl)) (ta (tm j0 j0) (tm j3 (ta (tm j1 j2) (tm j2 j1))))) (zq R2 [x.1, x.2.1, x.2.2, XI] (ta (ta (tm j0 j1) (tm j0 j1)) (txi 3 (tm j2 j2) rfl)) (ta (ta (tm j0 j1) (tm j1 j0)) (tm j3 (tm j2 j2)))) (zq R2 [x.1, x.2.1, x.2.2, XI] (tsb (tsb (ta (ta (tm (ta (tsb j0 j1) j2) (ta (tsb j0 j1) j2)) (ta (tm j0 j1) (tm j0 j1))) (ta (tm j1 j2) (tm j1 j2))) (tm j0 j0)) (tm j2 j2)) (ta (ta (tm j0 j2) (tm j1 j1)) (tm j2 j0))), ac hw⟩)
def TO48 : Tb Tryz.prog Gt := TO47.add (bS (g := fun x => K6.mul x x) ent177 kS)
theorem qB (x : W6) (c : W2) : Pure Tryz.prog Gt 163 [EV6 x, EV2 c] (EV6 (sc6 x c)) := by
 intro w hw
 have hGF : BOk Gt (pl w) := gt_low.plain hw
 refine bE (G := Gt) Tryz.func163 rfl rfl (Hp (pl w) []) (aZ (pl w) trivial ai) (ap hGF) ?_
 refine ab (E := EE [143]) ?_
 refine lb fun b2 => ?_
 refine lb fun b3 => ?_
 refine la zv47 fun b4 => ?_
 refine aa ?_
 refine ab (E := EE [143]) ?_
 refine la zv178 fun b5 => ?_
 refine aa ?_
 refine aj ?_
 refine ab (E := EE [143]) ?_
 refine rJ9 ?_
 refine cz rfl rfl ent143 rfl rfl (fun w' hw' => (eY x w' (hGF.g _ _ _ hw')).mono fun e' w'' h => ?_)
 obtain ⟨c1, rfl, hg, h1, ho⟩ := h
 refine ⟨_, _, rfl, ap hGF, hw'.news ai hg [(33, c1, ((fe (x.1).1 ++ fe (x.1).2) ++ ((fe (x.2.1).1 ++ fe (x.2.1).2) ++ (fe (x.2.2).1 ++ fe (x.2.2).2))).map U64, 47)] ?_ di, ?_⟩
 ·intro n' b' c' t' hl
  rcases bh hl with ⟨_, e⟩ | ⟨_, hl⟩
  ·cases e; exact ⟨h1, ho⟩
  ·cases hl
 clear hw' hg h1 ho
 refine aa ?_
 refine am ?_
 refine db (fun _ => pl w) (fun _ _ => pl w) (fun _ => hGF) (fun _ _ => hGF) (fun _ => rfl) (fun _ _ => rfl) rfl rfl ent184 (vD c1 x) (fun v hv => by obtain ⟨k, hk, rfl⟩ := List.mem_map.1 hv; rfl) rfl (fun k => [(2, b2, ((fe (x.1).1 ++ fe (x.1).2) ++ ((fe (x.2.1).1 ++ fe (x.2.1).2) ++ (fe (x.2.2).1 ++ fe (x.2.2).2))).map U64, 47), (3, b3, (fe c.1 ++ fe c.2).map U64, 33), (4, b4, ((fe 0 ++ fe 0) ++ ((fe 0 ++ fe 0) ++ (fe 0 ++ fe 0))).map U64, 47), (5, b5, (FM (FF (fun j => if j < k then ml2 (p3 x j) c else ze2)) 3).map U64, 178), (33, c1, ((fe (x.1).1 ++ fe (x.1).2) ++ ((fe (x.2.1).1 ++ fe (x.2.1).2) ++ (fe (x.2.2).1 ++ fe (x.2.2).2))).map U64, 47)]) (fun _ _ _ => False) ⟨rfl, rfl, rfl, congrArg (fun l => some (b5, l, _)) (congrArg (List.map U64) (nH fun j _ => (if_neg (Nat.not_lt_zero j)).symm)), rfl, trivial⟩ (fun k _ w' h => cx (n := 33) rfl w' h) ?_ ?_ (fun _ _ _ _ _ h => h.elim)
 ·intro k v hx R hR
  obtain ⟨hk, rfl⟩ := tj x k v hx
  refine ab (E := EE [143]) ?_
  refine rJ9 ?_
  refine av (E := EE [143]) ?_
  refine bM 7 (hR (pl w) rfl hGF).1 zv33 rfl rfl ?_
  intro b7
  refine ao 7 (hR (pl w) rfl hGF).1 rfl rfl rfl Tryz.sizeOf33 (by simp) (by simp) (ak _) rfl ?_
  refine aa ?_
  refine ⟨rfl, _, rfl, ?_⟩
  refine am ?_
  refine av (E := EE [143]) ?_
  refine rJ9 ?_
  refine cZ (k) (12 * (k)) rfl rfl Tryz.underlying178 Tryz.sizeOf33 (by omega) (by omega) (by omega) rfl rfl ?_
  refine gy 5 ((FM (FF (fun j => if j < k + 1 then ml2 (p3 x j) c else ze2)) 3).map U64) (hR (pl w) rfl hGF).2.1 rfl rfl rfl Tryz.sizeOf33 (by simp) (ak _) (by simp; omega) (my _ _ (ml2 (p3 x k) c) 3 (k) _ (by omega) rfl (fun j _ => p5 (fun j => ml2 (p3 x j) c) (fun _ => ze2) k j)) rfl ?_
  refine aa ?_
  repeat (refine a6 ?_)
  exact ⟨_, rfl, ⟨rfl, rfl, rfl, rfl, rfl, trivial⟩⟩
 ·intro D hD
  rw [k4]
  refine ab (E := EE [143]) ?_
  refine rJ9 ?_
  refine lc ent189 (k6of _) ?_
  refine ao 4 hD rfl rfl rfl Tryz.sizeOf47 (by simp) (by simp) (ak _) rfl ?_
  refine aa ?_
  refine rt ?_
  exact cr (.inl rfl) ai (aw 4 rfl rfl rfl Tryz.isAgg47 Tryz.sizeOf47 (by simp) (fun w hw => ⟨e6 rfl rfl rfl, ac hw⟩))
theorem k6v (x : W6) : Pure Tryz.prog Gt 92 [EV6 x] (EV6 (v6 x)) := (bx (l1 (V6 _)) (V6 _) (pE TO48 Tryz.func92 [.inl [x.1.1, x.1.2, x.2.1.1, x.2.1.2, x.2.2.1, x.2.2.2]] (.inl (.inl [(v6 x).1.1, (v6 x).1.2, (v6 x).2.1.1, (v6 x).2.1.2, (v6 x).2.2.1, (v6 x).2.2.2])) (let t0 := xi2 (x.2.2.1, x.2.2.2); (.inl (.inl [t0.1, t0.2, x.1.1, x.1.2, x.2.1.1, x.2.1.2]), [])) [] (by kernel_rfl) aT rfl))
def TO49 : Tb Tryz.prog Gt := TO48.add (bS (g := v6) ent92 k6v)
def oth (x : W6) : W6 := (i3a x.1 x.2.1 x.2.2, i3b x.1 x.2.1 x.2.2, i3c x.1 x.2.1 x.2.2)
theorem kB (x : W6) : Pure Tryz.prog Gt 197 [EV6 x] (EV6 (oth x)) := (bx (l1 (V6 _)) (V6 _) (pE TO49 Tryz.func197 [.inl [x.1.1, x.1.2, x.2.1.1, x.2.1.2, x.2.2.1, x.2.2.2]] (.inl (.inl [(oth x).1.1, (oth x).1.2, (oth x).2.1.1, (oth x).2.1.2, (oth x).2.2.1, (oth x).2.2.2])) (let t0 := ml2 (x.1.1, x.1.2) (x.1.1, x.1.2); let t1 := ml2 (x.2.1.1, x.2.1.2) (x.2.2.1, x.2.2.2); let t2 := xi2 (t1.1, t1.2); let t3 := sb2 (t0.1, t0.2) (t2.1, t2.2); let t4 := ml2 (x.2.2.1, x.2.2.2) (x.2.2.1, x.2.2.2); let t5 := xi2 (t4.1, t4.2); let t6 := ml2 (x.1.1, x.1.2) (x.2.1.1, x.2.1.2); let t7 := sb2 (t5.1, t5.2) (t6.1, t6.2); let t8 := ml2 (x.2.1.1, x.2.1.2) (x.2.1.1, x.2.1.2); let t9 := ml2 (x.1.1, x.1.2) (x.2.2.1, x.2.2.2); let t10 := sb2 (t8.1, t8.2) (t9.1, t9.2); (.inl (.inl [t3.1, t3.2, t7.1, t7.2, t10.1, t10.2]), [])) [] (by kernel_rfl) aT rfl))
def TO50 : Tb Tryz.prog Gt := TO49.add (bS (g := oth) ent197 kB)
theorem GI (x : W6) : ad2 (xi2 (ad2 (ml2 x.2.1 (oth x).2.2) (ml2 x.2.2 (oth x).2.1))) (ml2 x.1 (oth x).1) = i3n x.1 x.2.1 x.2.2 := by
 show R2.add (xi2 (R2.add _ _)) _ = R2.add _ (xi2 (R2.add _ _))
 rw [R2.add_comm, R2.add_comm (ml2 x.2.1 (oth x).2.2)]
 rfl
theorem ui (x : W6) (c : W2) : Pure Tryz.prog Gt 163 [EV6 (oth x), EV2 c] (EV6 (sc6 (oth x) c)) := qB (oth x) c
theorem wW (x : W6) : Pure Tryz.prog Gt 178 [EV6 x] (EV6 (iv6 x)) := by
 refine a7 Tryz.func178 fun w hw hGF => ?_
 refine xp ?_
 refine lb fun b1 => ?_
 refine la zv47 fun b2 => ?_
 refine aa ?_
 refine pJ9 ?_
 refine lc ent197 (kB _) ?_
 refine la zv47 fun b3 => ?_
 refine rJ9 ?_
 refine cg (E := EE [2999999]) [0, 1, 2, 3, 4, 5, 6, 7, 8, 9, 10, 11, 12, 13, 14, 15, 16, 17] [⟨18, 4, 33, (fe 0 ++ fe 0).map U64⟩] [19] bi rfl (by kernel_rfl) (by kernel_rfl) (by kernel_rfl) (by kernel_rfl) (by kernel_rfl) (by kernel_rfl) (by decide) (by intro x hx; simp only [List.mem_cons, List.not_mem_nil, or_false] at hx; subst hx; exact bB rfl zv33 rfl) ?_
 refine rJ9 ?_
 refine ⟨_, _, rfl, hGF, by intro x hx; simp only [List.mem_cons, List.not_mem_nil, or_false] at hx; subst hx; rfl, by intro x hx; simp only [List.mem_cons, List.not_mem_nil, or_false] at hx; subst hx; rfl, fun adr => ?_⟩
 refine rJ9 ?_
 refine bl (E := EE []) bi (by kernel_rfl) (by kernel_rfl) (by kernel_rfl) ?_
 refine rJ9 ?_
 refine lc ent128 (zA _) ?_
 refine lc ent163 (ui x _) ?_
 refine rJ9 ?_
 refine rt ?_
 exact aw 2 rfl rfl rfl Tryz.isAgg47 Tryz.sizeOf47 (by simp) (fun w hw => ⟨by rw [GI]; rfl, ac hw⟩)
def TO51 : Tb Tryz.prog Gt := TO50.add (bS (g := iv6) ent178 wW)
end Q6
end
end Go.Proofs.YtpnpiblphnpfiaaGreatDoor
