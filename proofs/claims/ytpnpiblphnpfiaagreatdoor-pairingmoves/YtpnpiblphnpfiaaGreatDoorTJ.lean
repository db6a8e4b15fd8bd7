/-
 The program's long power; Pairing, Check.
-/
import Derived.Test.YtpnpiblphnpfiaaGreatDoorTI
import Derived.Test.YtpnpiblphnpfiaaGreatDoorXF
import Derived.Test.YtpnpiblphnpfiaaGreatDoorX5
namespace Go.Proofs.YtpnpiblphnpfiaaGreatDoor
open Go.RowKit
set_option maxRecDepth 100000
set_option maxHeartbeats 1000000
attribute [local simp] aN aZ aI aF aw aX aC aB aD PLl bX bZ N1l ca bU cb aP a5 aJ aU aV J1.aY J2.aY Q6.bM Q6.bV
theorem rTJ {Q P : Prop} (k : Q) (h : Q → P := by intro k; (refine LY.run ?_); (repeat (first | refine bK rfl rfl rfl ?_ | refine bg rfl rfl rfl ?_ | ((refine u2 rfl rfl ?_ rfl rfl ?_); (· simp)) | ((refine o0 hGF rfl rfl rfl ?_ ?_ (ak _) rfl ?_); (· simp); (· simp)))); (first | refine ci ?_ | refine LY.mk ?_); exact k) : P := h k
theorem pTJ {Q P : Prop} (k : Q) (h : Q → P := by intro k; (refine xp ?_); (refine rTJ ?_); exact k) : P := h k

theorem ent133 : ae Tryz.prog 133 := fun _ _ => by kernel_rfl
theorem ent131 : ae Tryz.prog 131 := fun _ _ => by kernel_rfl
theorem ent67 : ae Tryz.prog 67 := fun _ _ => by kernel_rfl
theorem ent66 : ae Tryz.prog 66 := fun _ _ => by kernel_rfl
theorem ent24 : ae Tryz.prog 24 := fun _ _ => by kernel_rfl
theorem ent18 : ae Tryz.prog 18 := fun _ _ => by kernel_rfl
theorem ent38 : ae Tryz.prog 38 := fun _ _ => by kernel_rfl
namespace Q6
def pwu (u : Nat) (x : W12) : W12 := K12.pw x u
theorem FC (x : W12) : Pure Tryz.prog Gt 133 [bu x] (bu (pwu UG x)) := by
 intro w hw
 have hGF : BOk Gt (pl w) := gt_low.plain hw
 refine bF (G := Gt) Tryz.func133 rfl rfl (Hp (pl w) []) (aO (pl w) trivial ai) (ap hGF) ?_
 refine xp ?_
 refine lb fun b1 => ?_
 refine la zv49 fun b2 => ?_
 refine aa ?_
 refine pTJ ?_
 refine la zv49 fun b3 => ?_
 refine rTJ ?_
 refine am ?_
 refine xp ?_
 refine lc ent112 (p8) ?_
 refine aa ?_
 refine aj ?_
 refine da (fun _ => pl w) (fun _ _ => pl w) (fun _ => hGF) (fun _ _ => hGF) (fun _ => rfl) (fun _ _ => rfl) rfl rfl ent158 ic (fun x hx => by obtain ⟨k, hk, rfl⟩ := List.mem_map.1 hx; rfl) rfl (fun k => [(1, b1, gK x, 49), (2, b2, (((fe 0 ++ fe 0) ++ ((fe 0 ++ fe 0) ++ (fe 0 ++ fe 0))) ++ ((fe 0 ++ fe 0) ++ ((fe 0 ++ fe 0) ++ (fe 0 ++ fe 0)))).map U64, 49), (3, b3, gK (pwD x k), 49)]) (fun _ _ _ => False) ⟨rfl, rfl, by rw [show pwD x 0 = x from K12.pw_one x]; rfl, trivial⟩ (fun _ _ _ _ => trivial) ?_ ?_ (fun _ _ _ _ _ h => h.elim)
 ·intro k v hx R hR
  obtain ⟨hk, rfl⟩ := mX hx
  refine au (E := EE []) ?_
  refine rTJ ?_
  refine ⟨rfl, _, rfl, ?_⟩
  refine aj ?_
  refine pTJ ?_
  refine lc ent82 (gx _) ?_
  refine ao 3 (hR (pl w) rfl hGF).2.1 rfl rfl rfl Tryz.sizeOf49 (by simp) (by simp) (ak _) rfl ?_
  refine aa ?_
  refine pTJ ?_
  refine bO rfl (fun hc => ?_) (fun hc => ?_)
  ·have hd : DGb k = true := by simpa using hc
   refine au (E := EE []) ?_
   refine rTJ ?_
   refine lc ent35 (xm _ _) ?_
   refine ao 3 (hR (pl w) rfl hGF).2.1 rfl rfl rfl Tryz.sizeOf49 (by simp) (by simp) (ak _) rfl ?_
   refine aa ?_
   repeat (first | refine aQ ?_ | refine bL ?_)
   exact ⟨_, rfl, ⟨rfl, rfl, by first | (rw [← z8 x hk hd]; rfl) | (rw [← z4 x hk hd]; rfl), trivial⟩⟩
  ·have hd : DGb k = false := by simpa using hc
   refine aA ?_
   repeat (first | refine aQ ?_ | refine bL ?_)
   exact ⟨_, rfl, ⟨rfl, rfl, by first | (rw [← z8 x hk hd]; rfl) | (rw [← z4 x hk hd]; rfl), trivial⟩⟩
 ·intro D hD
  rw [gD]
  refine pTJ ?_
  refine ao 2 hD rfl rfl rfl Tryz.sizeOf49 (by simp) (by simp) (ak _) rfl ?_
  refine aa ?_
  refine rt ?_
  exact cm (.inl rfl) ai (ay 2 rfl rfl rfl Tryz.isAgg49 Tryz.sizeOf49 (by simp) (fun w hw => ⟨by rw [pwu, ← CF], ah hw⟩))
abbrev HF (f : W12 → W12) : Prop := ∀ x, Pure Tryz.prog Gt 133 [bu x] (bu (f x))
def agI (m : Nat) : Ag Unit where
 of := fun v => match v with
  | .inr (.inr (.inl (.int .i64 (.ofNat n)))) => bif Nat.beq n m then some () else none
  | _ => none
 dn := fun _ => I (m : Int)
 ok := fun v x r h => by
  split at h
  ·rename_i n
   obtain ⟨h1, h⟩ := cQ h
   show Value.int .i64 (Int.ofNat n) = I (m : Int)
   rw [Nat.eq_of_beq_eq_true h1]; rfl
  ·cases h
theorem DU (x : W12) : Pure Tryz.prog Gt 132 [bu x, I 1] (bu (bp x)) := rz x 1
theorem Ea (x : W12) : Pure Tryz.prog Gt 132 [bu x, I 2] (bu (bp (bp x))) := rz x 2
theorem wfr {f : Nat} {g : W12 → W12} (m : Nat) (en : ae Tryz.prog f) (h : ∀ a, Pure Tryz.prog Gt f [bu a, I (m : Int)] (bu (g a))) : Snd Tryz.prog Gt f (c2 q12.ag (agI m) q12.rd (fun a _ => g a)) := dS q12.ag (agI m) q12.rd en (fun a _ => bx (l2 (V12 _).symm rfl) (V12 _).symm (h a))
def G5 {f : W12 → W12} (hf : HF f) : Tb Tryz.prog Gt := TO232.add (cf (g := f) ent133 hf)
def GK {f : W12 → W12} (hf : HF f) : Tb Tryz.prog Gt := (G5 hf).add (wfr (g := bp) 1 ent132 DU)
def AW {f : W12 → W12} (hf : HF f) : Tb Tryz.prog Gt := (GK hf).add (wfr (g := fun x => bp (bp x)) 2 ent132 Ea)
theorem D2 {α β : Type} (p : α × β) : (p.1, p.2) = p := by cases p; rfl
def pva (f : W12 → W12) (x : W12) : W12 := K12.mul (f x) x
def pez (x : W12) : W12 := fi2 (fi1 x)
def ph1 (f : W12 → W12) (x : W12) : W12 := K12.mul (bp x) (bt (f x))
def ph2 (f : W12 → W12) (x : W12) : W12 := K12.mul (K12.mul (f (f x)) (bp (bp x))) (bt x)
def phd (f : W12 → W12) (x : W12) : W12 := K12.mul (K12.mul (ph2 f (ph1 f (pva f (pva f x)))) (K12.mul x x)) x
theorem D0 {p6 : Nat} (h6 : ∀ x, bt x = K12.pw x p6) (x : W12) (u : Nat) : bt (K12.pw x u) = K12.pw (bt x) u := by rw [h6, h6, ← K12.pw_mul, ← K12.pw_mul, Nat.mul_comm]
theorem iX (x : W12) (u : Nat) : bt (K12.pw x u) = K12.pw (bt x) u := D0 (fun x => (pN x).symm) x u
theorem wT (u : Nat) (x : W12) : fi3 u x = bt (pva (pwu u) x) := by rw [fi3, tnd, ← fo, pva, pwu]
theorem Bp (u : Nat) (x : W12) : pva (pwu u) (bt x) = bt (pva (pwu u) x) := by rw [pva, pva, pwu, pwu, ← iX, ← fo]
theorem Eu (u : Nat) (x : W12) : pva (pwu u) (pva (pwu u) x) = fi3 u (fi3 u x) := by rw [wT, wT, Bp, jl]
theorem CR (u : Nat) (x : W12) : ph1 (pwu u) x = fi4 u x := by rw [ph1, fi4, tnd, pwu]; exact K12.mul_comm _ _
theorem Bh (u : Nat) (x : W12) : ph2 (pwu u) x = fi5 u x := by rw [ph2, fi5, tnd, tnd, ← iX, jl, pwu, pwu]
theorem Bc (u : Nat) (x : W12) : phd (pwu u) x = fi6 u x := by
 rw [phd, Eu, CR, Bh]
 show K12.mul (K12.mul _ (K12.mul _ _)) _ = K12.mul (K12.mul (K12.mul _ _) _) _
 rw [← K12.mul_assoc]
theorem DS (u : Nat) (x : W12) : kp u x = phd (pwu u) (pez x) := by rw [kp, Bc, pez]
def ek (f : W12 → W12) (x : W12) : W12 :=
 let t0 := f x
 let t1 := K12.mul (((t0.1.1.1, t0.1.1.2), (t0.1.2.1.1, t0.1.2.1.2), (t0.1.2.2.1, t0.1.2.2.2)), ((t0.2.1.1, t0.2.1.2), (t0.2.2.1.1, t0.2.2.1.2), (t0.2.2.2.1, t0.2.2.2.2))) x
 t1
theorem tP (f : W12 → W12) (x : W12) : ek f x = pva f x := by
 unfold ek
 simp only [D2]
 rfl
theorem G3 {f : W12 → W12} (hf : HF f) (x : W12) : Pure Tryz.prog Gt 131 [bu x] (bu (ek f x)) := (bx (l1 (V12 _)) (V12 _) (pE (AW hf) Tryz.func131 [.inl [x.1.1.1, x.1.1.2, x.1.2.1.1, x.1.2.1.2, x.1.2.2.1, x.1.2.2.2, x.2.1.1, x.2.1.2, x.2.2.1.1, x.2.2.1.2, x.2.2.2.1, x.2.2.2.2]] (.inl (.inl [(ek f x).1.1.1, (ek f x).1.1.2, (ek f x).1.2.1.1, (ek f x).1.2.1.2, (ek f x).1.2.2.1, (ek f x).1.2.2.2, (ek f x).2.1.1, (ek f x).2.1.2, (ek f x).2.2.1.1, (ek f x).2.2.1.2, (ek f x).2.2.2.1, (ek f x).2.2.2.2])) (let t0 := f x; let t1 := K12.mul (((t0.1.1.1, t0.1.1.2), (t0.1.2.1.1, t0.1.2.1.2), (t0.1.2.2.1, t0.1.2.2.2)), ((t0.2.1.1, t0.2.1.2), (t0.2.2.1.1, t0.2.2.1.2), (t0.2.2.2.1, t0.2.2.2.2))) x; (.inl (.inl [t1.1.1.1, t1.1.1.2, t1.1.2.1.1, t1.1.2.1.2, t1.1.2.2.1, t1.1.2.2.2, t1.2.1.1, t1.2.1.2, t1.2.2.1.1, t1.2.2.1.2, t1.2.2.2.1, t1.2.2.2.2]), [])) [] (by kernel_rfl) aR (by kernel_rfl)))
theorem ppva {f : W12 → W12} (hf : HF f) (x : W12) : Pure Tryz.prog Gt 131 [bu x] (bu (pva f x)) := by rw [← tP]; exact G3 hf x
def z0 {f : W12 → W12} (hf : HF f) : Tb Tryz.prog Gt := (AW hf).add (cf (g := pva f) ent131 (ppva hf))
def ej (x : W12) : W12 :=
 let t0 := bt x
 let t1 := fh x
 let t2 := K12.mul (((t0.1.1.1, t0.1.1.2), (t0.1.2.1.1, t0.1.2.1.2), (t0.1.2.2.1, t0.1.2.2.2)), ((t0.2.1.1, t0.2.1.2), (t0.2.2.1.1, t0.2.2.1.2), (t0.2.2.2.1, t0.2.2.2.2))) (((t1.1.1.1, t1.1.1.2), (t1.1.2.1.1, t1.1.2.1.2), (t1.1.2.2.1, t1.1.2.2.2)), ((t1.2.1.1, t1.2.1.2), (t1.2.2.1.1, t1.2.2.1.2), (t1.2.2.2.1, t1.2.2.2.2)))
 let t3 := bp (bp (((t2.1.1.1, t2.1.1.2), (t2.1.2.1.1, t2.1.2.1.2), (t2.1.2.2.1, t2.1.2.2.2)), ((t2.2.1.1, t2.2.1.2), (t2.2.2.1.1, t2.2.2.1.2), (t2.2.2.2.1, t2.2.2.2.2))))
 let t4 := K12.mul (((t3.1.1.1, t3.1.1.2), (t3.1.2.1.1, t3.1.2.1.2), (t3.1.2.2.1, t3.1.2.2.2)), ((t3.2.1.1, t3.2.1.2), (t3.2.2.1.1, t3.2.2.1.2), (t3.2.2.2.1, t3.2.2.2.2))) (((t2.1.1.1, t2.1.1.2), (t2.1.2.1.1, t2.1.2.1.2), (t2.1.2.2.1, t2.1.2.2.2)), ((t2.2.1.1, t2.2.1.2), (t2.2.2.1.1, t2.2.2.1.2), (t2.2.2.2.1, t2.2.2.2.2)))
 t4
theorem ts (x : W12) : ej x = pez x := by
 unfold ej
 simp only [D2]
 rfl
theorem E7 {f : W12 → W12} (hf : HF f) (x : W12) : Pure Tryz.prog Gt 67 [bu x] (bu (ej x)) := (bx (l1 (V12 _)) (V12 _) (pE (z0 hf) Tryz.func67 [.inl [x.1.1.1, x.1.1.2, x.1.2.1.1, x.1.2.1.2, x.1.2.2.1, x.1.2.2.2, x.2.1.1, x.2.1.2, x.2.2.1.1, x.2.2.1.2, x.2.2.2.1, x.2.2.2.2]] (.inl (.inl [(ej x).1.1.1, (ej x).1.1.2, (ej x).1.2.1.1, (ej x).1.2.1.2, (ej x).1.2.2.1, (ej x).1.2.2.2, (ej x).2.1.1, (ej x).2.1.2, (ej x).2.2.1.1, (ej x).2.2.1.2, (ej x).2.2.2.1, (ej x).2.2.2.2])) (let t0 := bt x; let t1 := fh x; let t2 := K12.mul (((t0.1.1.1, t0.1.1.2), (t0.1.2.1.1, t0.1.2.1.2), (t0.1.2.2.1, t0.1.2.2.2)), ((t0.2.1.1, t0.2.1.2), (t0.2.2.1.1, t0.2.2.1.2), (t0.2.2.2.1, t0.2.2.2.2))) (((t1.1.1.1, t1.1.1.2), (t1.1.2.1.1, t1.1.2.1.2), (t1.1.2.2.1, t1.1.2.2.2)), ((t1.2.1.1, t1.2.1.2), (t1.2.2.1.1, t1.2.2.1.2), (t1.2.2.2.1, t1.2.2.2.2))); let t3 := bp (bp (((t2.1.1.1, t2.1.1.2), (t2.1.2.1.1, t2.1.2.1.2), (t2.1.2.2.1, t2.1.2.2.2)), ((t2.2.1.1, t2.2.1.2), (t2.2.2.1.1, t2.2.2.1.2), (t2.2.2.2.1, t2.2.2.2.2)))); let t4 := K12.mul (((t3.1.1.1, t3.1.1.2), (t3.1.2.1.1, t3.1.2.1.2), (t3.1.2.2.1, t3.1.2.2.2)), ((t3.2.1.1, t3.2.1.2), (t3.2.2.1.1, t3.2.2.1.2), (t3.2.2.2.1, t3.2.2.2.2))) (((t2.1.1.1, t2.1.1.2), (t2.1.2.1.1, t2.1.2.1.2), (t2.1.2.2.1, t2.1.2.2.2)), ((t2.2.1.1, t2.2.1.2), (t2.2.2.1.1, t2.2.2.1.2), (t2.2.2.2.1, t2.2.2.2.2))); (.inl (.inl [t4.1.1.1, t4.1.1.2, t4.1.2.1.1, t4.1.2.1.2, t4.1.2.2.1, t4.1.2.2.2, t4.2.1.1, t4.2.1.2, t4.2.2.1.1, t4.2.2.1.2, t4.2.2.2.1, t4.2.2.2.2]), [])) [] (by kernel_rfl) aR (by kernel_rfl)))
theorem ppez {f : W12 → W12} (hf : HF f) (x : W12) : Pure Tryz.prog Gt 67 [bu x] (bu (pez x)) := by rw [← ts]; exact E7 hf x
def zL {f : W12 → W12} (hf : HF f) : Tb Tryz.prog Gt := (z0 hf).add (cf (g := pez) ent67 (ppez hf))
def ei (f : W12 → W12) (x : W12) : W12 :=
 let t0 := pva f x
 let t1 := pva f (((t0.1.1.1, t0.1.1.2), (t0.1.2.1.1, t0.1.2.1.2), (t0.1.2.2.1, t0.1.2.2.2)), ((t0.2.1.1, t0.2.1.2), (t0.2.2.1.1, t0.2.2.1.2), (t0.2.2.2.1, t0.2.2.2.2)))
 let t2 := bp (((t1.1.1.1, t1.1.1.2), (t1.1.2.1.1, t1.1.2.1.2), (t1.1.2.2.1, t1.1.2.2.2)), ((t1.2.1.1, t1.2.1.2), (t1.2.2.1.1, t1.2.2.1.2), (t1.2.2.2.1, t1.2.2.2.2)))
 let t3 := f (((t1.1.1.1, t1.1.1.2), (t1.1.2.1.1, t1.1.2.1.2), (t1.1.2.2.1, t1.1.2.2.2)), ((t1.2.1.1, t1.2.1.2), (t1.2.2.1.1, t1.2.2.1.2), (t1.2.2.2.1, t1.2.2.2.2)))
 let t4 := bt (((t3.1.1.1, t3.1.1.2), (t3.1.2.1.1, t3.1.2.1.2), (t3.1.2.2.1, t3.1.2.2.2)), ((t3.2.1.1, t3.2.1.2), (t3.2.2.1.1, t3.2.2.1.2), (t3.2.2.2.1, t3.2.2.2.2)))
 let t5 := K12.mul (((t2.1.1.1, t2.1.1.2), (t2.1.2.1.1, t2.1.2.1.2), (t2.1.2.2.1, t2.1.2.2.2)), ((t2.2.1.1, t2.2.1.2), (t2.2.2.1.1, t2.2.2.1.2), (t2.2.2.2.1, t2.2.2.2.2))) (((t4.1.1.1, t4.1.1.2), (t4.1.2.1.1, t4.1.2.1.2), (t4.1.2.2.1, t4.1.2.2.2)), ((t4.2.1.1, t4.2.1.2), (t4.2.2.1.1, t4.2.2.1.2), (t4.2.2.2.1, t4.2.2.2.2)))
 let t6 := f (((t5.1.1.1, t5.1.1.2), (t5.1.2.1.1, t5.1.2.1.2), (t5.1.2.2.1, t5.1.2.2.2)), ((t5.2.1.1, t5.2.1.2), (t5.2.2.1.1, t5.2.2.1.2), (t5.2.2.2.1, t5.2.2.2.2)))
 let t7 := f (((t6.1.1.1, t6.1.1.2), (t6.1.2.1.1, t6.1.2.1.2), (t6.1.2.2.1, t6.1.2.2.2)), ((t6.2.1.1, t6.2.1.2), (t6.2.2.1.1, t6.2.2.1.2), (t6.2.2.2.1, t6.2.2.2.2)))
 let t8 := bp (bp (((t5.1.1.1, t5.1.1.2), (t5.1.2.1.1, t5.1.2.1.2), (t5.1.2.2.1, t5.1.2.2.2)), ((t5.2.1.1, t5.2.1.2), (t5.2.2.1.1, t5.2.2.1.2), (t5.2.2.2.1, t5.2.2.2.2))))
 let t9 := K12.mul (((t7.1.1.1, t7.1.1.2), (t7.1.2.1.1, t7.1.2.1.2), (t7.1.2.2.1, t7.1.2.2.2)), ((t7.2.1.1, t7.2.1.2), (t7.2.2.1.1, t7.2.2.1.2), (t7.2.2.2.1, t7.2.2.2.2))) (((t8.1.1.1, t8.1.1.2), (t8.1.2.1.1, t8.1.2.1.2), (t8.1.2.2.1, t8.1.2.2.2)), ((t8.2.1.1, t8.2.1.2), (t8.2.2.1.1, t8.2.2.1.2), (t8.2.2.2.1, t8.2.2.2.2)))
 let t10 := bt (((t5.1.1.1, t5.1.1.2), (t5.1.2.1.1, t5.1.2.1.2), (t5.1.2.2.1, t5.1.2.2.2)), ((t5.2.1.1, t5.2.1.2), (t5.2.2.1.1, t5.2.2.1.2), (t5.2.2.2.1, t5.2.2.2.2)))
 let t11 := K12.mul (((t9.1.1.1, t9.1.1.2), (t9.1.2.1.1, t9.1.2.1.2), (t9.1.2.2.1, t9.1.2.2.2)), ((t9.2.1.1, t9.2.1.2), (t9.2.2.1.1, t9.2.2.1.2), (t9.2.2.2.1, t9.2.2.2.2))) (((t10.1.1.1, t10.1.1.2), (t10.1.2.1.1, t10.1.2.1.2), (t10.1.2.2.1, t10.1.2.2.2)), ((t10.2.1.1, t10.2.1.2), (t10.2.2.1.1, t10.2.2.1.2), (t10.2.2.2.1, t10.2.2.2.2)))
 let t12 := K12.mul x x
 let t13 := K12.mul (((t11.1.1.1, t11.1.1.2), (t11.1.2.1.1, t11.1.2.1.2), (t11.1.2.2.1, t11.1.2.2.2)), ((t11.2.1.1, t11.2.1.2), (t11.2.2.1.1, t11.2.2.1.2), (t11.2.2.2.1, t11.2.2.2.2))) (((t12.1.1.1, t12.1.1.2), (t12.1.2.1.1, t12.1.2.1.2), (t12.1.2.2.1, t12.1.2.2.2)), ((t12.2.1.1, t12.2.1.2), (t12.2.2.1.1, t12.2.2.1.2), (t12.2.2.2.1, t12.2.2.2.2)))
 let t14 := K12.mul (((t13.1.1.1, t13.1.1.2), (t13.1.2.1.1, t13.1.2.1.2), (t13.1.2.2.1, t13.1.2.2.2)), ((t13.2.1.1, t13.2.1.2), (t13.2.2.1.1, t13.2.2.1.2), (t13.2.2.2.1, t13.2.2.2.2))) x
 t14
theorem uH (f : W12 → W12) (x : W12) : ei f x = phd f x := by
 unfold ei
 simp only [D2]
 rfl
theorem EK {f : W12 → W12} (hf : HF f) (x : W12) : Pure Tryz.prog Gt 66 [bu x] (bu (ei f x)) := (bx (l1 (V12 _)) (V12 _) (pE (zL hf) Tryz.func66 [.inl [x.1.1.1, x.1.1.2, x.1.2.1.1, x.1.2.1.2, x.1.2.2.1, x.1.2.2.2, x.2.1.1, x.2.1.2, x.2.2.1.1, x.2.2.1.2, x.2.2.2.1, x.2.2.2.2]] (.inl (.inl [(ei f x).1.1.1, (ei f x).1.1.2, (ei f x).1.2.1.1, (ei f x).1.2.1.2, (ei f x).1.2.2.1, (ei f x).1.2.2.2, (ei f x).2.1.1, (ei f x).2.1.2, (ei f x).2.2.1.1, (ei f x).2.2.1.2, (ei f x).2.2.2.1, (ei f x).2.2.2.2])) (let t0 := pva f x; let t1 := pva f (((t0.1.1.1, t0.1.1.2), (t0.1.2.1.1, t0.1.2.1.2), (t0.1.2.2.1, t0.1.2.2.2)), ((t0.2.1.1, t0.2.1.2), (t0.2.2.1.1, t0.2.2.1.2), (t0.2.2.2.1, t0.2.2.2.2))); let t2 := bp (((t1.1.1.1, t1.1.1.2), (t1.1.2.1.1, t1.1.2.1.2), (t1.1.2.2.1, t1.1.2.2.2)), ((t1.2.1.1, t1.2.1.2), (t1.2.2.1.1, t1.2.2.1.2), (t1.2.2.2.1, t1.2.2.2.2))); let t3 := f (((t1.1.1.1, t1.1.1.2), (t1.1.2.1.1, t1.1.2.1.2), (t1.1.2.2.1, t1.1.2.2.2)), ((t1.2.1.1, t1.2.1.2), (t1.2.2.1.1, t1.2.2.1.2), (t1.2.2.2.1, t1.2.2.2.2))); let t4 := bt (((t3.1.1.1, t3.1.1.2), (t3.1.2.1.1, t3.1.2.1.2), (t3.1.2.2.1, t3.1.2.2.2)), ((t3.2.1.1, t3.2.1.2), (t3.2.2.1.1, t3.2.2.1.2), (t3.2.2.2.1, t3.2.2.2.2))); let t5 := K12.mul (((t2.1.1.1, t2.1.1.2), (t2.1.2.1.1, t2.1.2.1.2), (t2.1.2.2.1, t2.1.2.2.2)), ((t2.2.1.1, t2.2.1.2), (t2.2.2.1.1, t2.2.2.1.2), (t2.2.2.2.1, t2.2.2.2.2))) (((t4.1.1.1, t4.1.1.2), (t4.1.2.1.1, t4.1.2.1.2), (t4.1.2.2.1, t4.1.2.2.2)), ((t4.2.1.1, t4.2.1.2), (t4.2.2.1.1, t4.2.2.1.2), (t4.2.2.2.1, t4.2.2.2.2))); let t6 := f (((t5.1.1.1, t5.1.1.2), (t5.1.2.1.1, t5.1.2.1.2), (t5.1.2.2.1, t5.1.2.2.2)), ((t5.2.1.1, t5.2.1.2), (t5.2.2.1.1, t5.2.2.1.2), (t5.2.2.2.1, t5.2.2.2.2))); let t7 := f (((t6.1.1.1, t6.1.1.2), (t6.1.2.1.1, t6.1.2.1.2), (t6.1.2.2.1, t6.1.2.2.2)), ((t6.2.1.1, t6.2.1.2), (t6.2.2.1.1, t6.2.2.1.2), (t6.2.2.2.1, t6.2.2.2.2))); let t8 := bp (bp (((t5.1.1.1, t5.1.1.2), (t5.1.2.1.1, t5.1.2.1.2), (t5.1.2.2.1, t5.1.2.2.2)), ((t5.2.1.1, t5.2.1.2), (t5.2.2.1.1, t5.2.2.1.2), (t5.2.2.2.1, t5.2.2.2.2)))); let t9 := K12.mul (((t7.1.1.1, t7.1.1.2), (t7.1.2.1.1, t7.1.2.1.2), (t7.1.2.2.1, t7.1.2.2.2)), ((t7.2.1.1, t7.2.1.2), (t7.2.2.1.1, t7.2.2.1.2), (t7.2.2.2.1, t7.2.2.2.2))) (((t8.1.1.1, t8.1.1.2), (t8.1.2.1.1, t8.1.2.1.2), (t8.1.2.2.1, t8.1.2.2.2)), ((t8.2.1.1, t8.2.1.2), (t8.2.2.1.1, t8.2.2.1.2), (t8.2.2.2.1, t8.2.2.2.2))); let t10 := bt (((t5.1.1.1, t5.1.1.2), (t5.1.2.1.1, t5.1.2.1.2), (t5.1.2.2.1, t5.1.2.2.2)), ((t5.2.1.1, t5.2.1.2), (t5.2.2.1.1, t5.2.2.1.2), (t5.2.2.2.1, t5.2.2.2.2))); let t11 := K12.mul (((t9.1.1.1, t9.1.1.2), (t9.1.2.1.1, t9.1.2.1.2), (t9.1.2.2.1, t9.1.2.2.2)), ((t9.2.1.1, t9.2.1.2), (t9.2.2.1.1, t9.2.2.1.2), (t9.2.2.2.1, t9.2.2.2.2))) (((t10.1.1.1, t10.1.1.2), (t10.1.2.1.1, t10.1.2.1.2), (t10.1.2.2.1, t10.1.2.2.2)), ((t10.2.1.1, t10.2.1.2), (t10.2.2.1.1, t10.2.2.1.2), (t10.2.2.2.1, t10.2.2.2.2))); let t12 := K12.mul x x; let t13 := K12.mul (((t11.1.1.1, t11.1.1.2), (t11.1.2.1.1, t11.1.2.1.2), (t11.1.2.2.1, t11.1.2.2.2)), ((t11.2.1.1, t11.2.1.2), (t11.2.2.1.1, t11.2.2.1.2), (t11.2.2.2.1, t11.2.2.2.2))) (((t12.1.1.1, t12.1.1.2), (t12.1.2.1.1, t12.1.2.1.2), (t12.1.2.2.1, t12.1.2.2.2)), ((t12.2.1.1, t12.2.1.2), (t12.2.2.1.1, t12.2.2.1.2), (t12.2.2.2.1, t12.2.2.2.2))); let t14 := K12.mul (((t13.1.1.1, t13.1.1.2), (t13.1.2.1.1, t13.1.2.1.2), (t13.1.2.2.1, t13.1.2.2.2)), ((t13.2.1.1, t13.2.1.2), (t13.2.2.1.1, t13.2.2.1.2), (t13.2.2.2.1, t13.2.2.2.2))) x; (.inl (.inl [t14.1.1.1, t14.1.1.2, t14.1.2.1.1, t14.1.2.1.2, t14.1.2.2.1, t14.1.2.2.2, t14.2.1.1, t14.2.1.2, t14.2.2.1.1, t14.2.2.1.2, t14.2.2.2.1, t14.2.2.2.2]), [])) [] (by kernel_rfl) aR (by kernel_rfl)))
theorem pphd {f : W12 → W12} (hf : HF f) (x : W12) : Pure Tryz.prog Gt 66 [bu x] (bu (phd f x)) := by rw [← uH]; exact EK hf x
def Gc {f : W12 → W12} (hf : HF f) : Tb Tryz.prog Gt := (zL hf).add (cf (g := phd f) ent66 (pphd hf))
theorem yS {f : W12 → W12} (hf : HF f) (x : W12) : Pure Tryz.prog Gt 24 [bu x] (bu (phd f (pez x))) := (bx (l1 (V12 _)) (V12 _) (pE (Gc hf) Tryz.func24 [.inl [x.1.1.1, x.1.1.2, x.1.2.1.1, x.1.2.1.2, x.1.2.2.1, x.1.2.2.2, x.2.1.1, x.2.1.2, x.2.2.1.1, x.2.2.1.2, x.2.2.2.1, x.2.2.2.2]] (.inl (.inl [(phd f (pez x)).1.1.1, (phd f (pez x)).1.1.2, (phd f (pez x)).1.2.1.1, (phd f (pez x)).1.2.1.2, (phd f (pez x)).1.2.2.1, (phd f (pez x)).1.2.2.2, (phd f (pez x)).2.1.1, (phd f (pez x)).2.1.2, (phd f (pez x)).2.2.1.1, (phd f (pez x)).2.2.1.2, (phd f (pez x)).2.2.2.1, (phd f (pez x)).2.2.2.2])) (let t0 := pez x; let t1 := phd f (((t0.1.1.1, t0.1.1.2), (t0.1.2.1.1, t0.1.2.1.2), (t0.1.2.2.1, t0.1.2.2.2)), ((t0.2.1.1, t0.2.1.2), (t0.2.2.1.1, t0.2.2.1.2), (t0.2.2.2.1, t0.2.2.2.2))); (.inl (.inl [t1.1.1.1, t1.1.1.2, t1.1.2.1.1, t1.1.2.1.2, t1.1.2.2.1, t1.1.2.2.2, t1.2.1.1, t1.2.1.2, t1.2.2.1.1, t1.2.2.1.2, t1.2.2.2.1, t1.2.2.2.2]), [])) [] (by kernel_rfl) aR (by kernel_rfl)))
theorem u1 (x : W12) : Pure Tryz.prog Gt 24 [bu x] (bu (kp UG x)) := by rw [DS]; exact yS FC x
end Q6
end Go.Proofs.YtpnpiblphnpfiaaGreatDoor
