/-
 The program's long power; Pairing, Check.
-/
import Derived.Test.YtpnpiblphnpfiaaGreatDoorTI
import Derived.Test.YtpnpiblphnpfiaaGreatDoorXF
import Derived.Test.YtpnpiblphnpfiaaGreatDoorX5
namespace Go.Proofs.YtpnpiblphnpfiaaGreatDoor
open Go.RowKit
set_option maxRecDepth 100000
set_option maxHeartbeats 1000000
attribute [local simp] a6 bq aH aB aP aZ aO aM aT PLl cB cC N1l cH cG cz bk br a5 bn bd J1.bC J2.bC Q6.cK Q6.da
theorem rTJ {Q P : Prop} (k : Q) (h : Q → P := by intro k; (refine LY.run ?_); (repeat (first | refine bH rfl rfl rfl ?_ | refine bc rfl rfl rfl ?_ | ((refine ub rfl rfl ?_ rfl rfl ?_); (· simp)) | ((refine pP hGF rfl rfl rfl ?_ ?_ (ak _) rfl ?_); (· simp); (· simp)))); (first | refine bY ?_ | refine LY.mk ?_); exact k) : P := h k
theorem pTJ {Q P : Prop} (k : Q) (h : Q → P := by intro k; (refine xp ?_); (refine rTJ ?_); exact k) : P := h k

theorem ent133 : ac Tryz.prog 133 := fun _ _ => by kernel_rfl
theorem ent131 : ac Tryz.prog 131 := fun _ _ => by kernel_rfl
theorem ent67 : ac Tryz.prog 67 := fun _ _ => by kernel_rfl
theorem ent66 : ac Tryz.prog 66 := fun _ _ => by kernel_rfl
theorem ent24 : ac Tryz.prog 24 := fun _ _ => by kernel_rfl
theorem ent18 : ac Tryz.prog 18 := fun _ _ => by kernel_rfl
theorem ent38 : ac Tryz.prog 38 := fun _ _ => by kernel_rfl
namespace Q6
def pwu (u : Nat) (x : W12) : W12 := K12.pw x u
theorem Jm (x : W12) : Pure Tryz.prog Gt 133 [bE x] (bE (pwu UG x)) := by
 intro w hw
 have hGF : BOk Gt (pl w) := gt_low.plain hw
 refine bT (G := Gt) Tryz.func133 rfl rfl (Hp (pl w) []) (aX (pl w) trivial ap) (aw hGF) ?_
 refine xp ?_
 refine lb fun b1 => ?_
 refine la zv49 fun b2 => ?_
 refine aa ?_
 refine pTJ ?_
 refine la zv49 fun b3 => ?_
 refine rTJ ?_
 refine ao ?_
 refine xp ?_
 refine lc ent112 (qb) ?_
 refine aa ?_
 refine am ?_
 refine dS (fun _ => pl w) (fun _ _ => pl w) (fun _ => hGF) (fun _ _ => hGF) (fun _ => rfl) (fun _ _ => rfl) rfl rfl ent158 iG (fun x hx => by obtain ⟨k, hk, rfl⟩ := List.mem_map.1 hx; rfl) rfl (fun k => [(1, b1, hO x, 49), (2, b2, (((fe 0 ++ fe 0) ++ ((fe 0 ++ fe 0) ++ (fe 0 ++ fe 0))) ++ ((fe 0 ++ fe 0) ++ ((fe 0 ++ fe 0) ++ (fe 0 ++ fe 0)))).map U64, 49), (3, b3, hO (pwD x k), 49)]) (fun _ _ _ => False) ⟨rfl, rfl, by rw [show pwD x 0 = x from K12.pw_one x]; rfl, trivial⟩ (fun _ _ _ _ => trivial) ?_ ?_ (fun _ _ _ _ _ h => h.elim)
 ·intro k v hx R hR
  obtain ⟨hk, rfl⟩ := nf hx
  refine au (E := EE []) ?_
  refine rTJ ?_
  refine ⟨rfl, _, rfl, ?_⟩
  refine am ?_
  refine pTJ ?_
  refine lc ent82 (gY _) ?_
  refine ai 3 (hR (pl w) rfl hGF).2.1 rfl rfl rfl Tryz.sizeOf49 (by simp) (by simp) (ak _) rfl ?_
  refine aa ?_
  refine pTJ ?_
  refine bJ rfl (fun hc => ?_) (fun hc => ?_)
  ·have hd : DGb k = true := by simpa using hc
   refine au (E := EE []) ?_
   refine rTJ ?_
   refine lc ent35 (pW _ _) ?_
   refine ai 3 (hR (pl w) rfl hGF).2.1 rfl rfl rfl Tryz.sizeOf49 (by simp) (by simp) (ak _) rfl ?_
   refine aa ?_
   repeat (first | refine aL ?_ | refine cd ?_)
   exact ⟨_, rfl, ⟨rfl, rfl, by first | (rw [← vW x hk hd]; rfl) | (rw [← w9 x hk hd]; rfl), trivial⟩⟩
  ·have hd : DGb k = false := by simpa using hc
   refine aD ?_
   repeat (first | refine aL ?_ | refine cd ?_)
   exact ⟨_, rfl, ⟨rfl, rfl, by first | (rw [← vW x hk hd]; rfl) | (rw [← w9 x hk hd]; rfl), trivial⟩⟩
 ·intro D hD
  rw [gS]
  refine pTJ ?_
  refine ai 2 hD rfl rfl rfl Tryz.sizeOf49 (by simp) (by simp) (ak _) rfl ?_
  refine aa ?_
  refine rt ?_
  exact cX (.inl rfl) ap (ay 2 rfl rfl rfl Tryz.isAgg49 Tryz.sizeOf49 (by simp) (fun w hw => ⟨by rw [pwu, ← wD], ah hw⟩))
abbrev HF (f : W12 → W12) : Prop := ∀ x, Pure Tryz.prog Gt 133 [bE x] (bE (f x))
def agI (m : Nat) : Ag Unit where
 of := fun v => match v with
  | .inr (.inr (.inl (.int .i64 (.ofNat n)))) => bif Nat.beq n m then some () else none
  | _ => none
 dn := fun _ => I (m : Int)
 ok := fun v x r h => by
  split at h
  ·rename_i n
   obtain ⟨h1, h⟩ := di h
   show Value.int .i64 (Int.ofNat n) = I (m : Int)
   rw [Nat.eq_of_beq_eq_true h1]; rfl
  ·cases h
theorem Gn (x : W12) : Pure Tryz.prog Gt 132 [bE x, I 1] (bE (bG x)) := td x 1
theorem E9 (x : W12) : Pure Tryz.prog Gt 132 [bE x, I 2] (bE (bG (bG x))) := td x 2
theorem wfr {f : Nat} {g : W12 → W12} (m : Nat) (en : ac Tryz.prog f) (h : ∀ a, Pure Tryz.prog Gt f [bE a, I (m : Int)] (bE (g a))) : Snd Tryz.prog Gt f (c2 q12.ag (agI m) q12.rd (fun a _ => g a)) := dM q12.ag (agI m) q12.rd en (fun a _ => a8 (l2 (V12 _).symm rfl) (V12 _).symm (h a))
def IO {f : W12 → W12} (hf : HF f) : Tb Tryz.prog Gt := TO235.add (cx (g := f) ent133 hf)
def IA {f : W12 → W12} (hf : HF f) : Tb Tryz.prog Gt := (IO hf).add (wfr (g := bG) 1 ent132 Gn)
def Cs {f : W12 → W12} (hf : HF f) : Tb Tryz.prog Gt := (IA hf).add (wfr (g := fun x => bG (bG x)) 2 ent132 E9)
theorem Es {α β : Type} (p : α × β) : (p.1, p.2) = p := by cases p; rfl
def pva (f : W12 → W12) (x : W12) : W12 := K12.mul (f x) x
def pez (x : W12) : W12 := fi2 (fi1 x)
def ph1 (f : W12 → W12) (x : W12) : W12 := K12.mul (bG x) (bz (f x))
def ph2 (f : W12 → W12) (x : W12) : W12 := K12.mul (K12.mul (f (f x)) (bG (bG x))) (bz x)
def phd (f : W12 → W12) (x : W12) : W12 := K12.mul (K12.mul (ph2 f (ph1 f (pva f (pva f x)))) (K12.mul x x)) x
theorem Fc {p6 : Nat} (h6 : ∀ x, bz x = K12.pw x p6) (x : W12) (u : Nat) : bz (K12.pw x u) = K12.pw (bz x) u := by rw [h6, h6, ← K12.pw_mul, ← K12.pw_mul, Nat.mul_comm]
theorem mx (x : W12) (u : Nat) : bz (K12.pw x u) = K12.pw (bz x) u := Fc (fun x => (nw x).symm) x u
theorem wu (u : Nat) (x : W12) : fi3 u x = bz (pva (pwu u) x) := by rw [fi3, tnd, ← eU, pva, pwu]
theorem EC (u : Nat) (x : W12) : pva (pwu u) (bz x) = bz (pva (pwu u) x) := by rw [pva, pva, pwu, pwu, ← mx, ← eU]
theorem IX (u : Nat) (x : W12) : pva (pwu u) (pva (pwu u) x) = fi3 u (fi3 u x) := by rw [wu, wu, EC, iZ]
theorem Ev (u : Nat) (x : W12) : ph1 (pwu u) x = fi4 u x := by rw [ph1, fi4, tnd, pwu]; exact K12.mul_comm _ _
theorem DK (u : Nat) (x : W12) : ph2 (pwu u) x = fi5 u x := by rw [ph2, fi5, tnd, tnd, ← mx, iZ, pwu, pwu]
theorem E7 (u : Nat) (x : W12) : phd (pwu u) x = fi6 u x := by
 rw [phd, IX, Ev, DK]
 show K12.mul (K12.mul _ (K12.mul _ _)) _ = K12.mul (K12.mul (K12.mul _ _) _) _
 rw [← K12.mul_assoc]
theorem E8 (u : Nat) (x : W12) : io u x = phd (pwu u) (pez x) := by rw [io, E7, pez]
def e8 (f : W12 → W12) (x : W12) : W12 :=
 let t0 := f x
 let t1 := K12.mul (((t0.1.1.1, t0.1.1.2), (t0.1.2.1.1, t0.1.2.1.2), (t0.1.2.2.1, t0.1.2.2.2)), ((t0.2.1.1, t0.2.1.2), (t0.2.2.1.1, t0.2.2.1.2), (t0.2.2.2.1, t0.2.2.2.2))) x
 t1
theorem xm (f : W12 → W12) (x : W12) : e8 f x = pva f x := by
 unfold e8
 simp only [Es]
 rfl
theorem I2 {f : W12 → W12} (hf : HF f) (x : W12) : Pure Tryz.prog Gt 131 [bE x] (bE (e8 f x)) := (a8 (l1 (V12 _)) (V12 _) (pE (Cs hf) Tryz.func131 [.inl [x.1.1.1, x.1.1.2, x.1.2.1.1, x.1.2.1.2, x.1.2.2.1, x.1.2.2.2, x.2.1.1, x.2.1.2, x.2.2.1.1, x.2.2.1.2, x.2.2.2.1, x.2.2.2.2]] (.inl (.inl [(e8 f x).1.1.1, (e8 f x).1.1.2, (e8 f x).1.2.1.1, (e8 f x).1.2.1.2, (e8 f x).1.2.2.1, (e8 f x).1.2.2.2, (e8 f x).2.1.1, (e8 f x).2.1.2, (e8 f x).2.2.1.1, (e8 f x).2.2.1.2, (e8 f x).2.2.2.1, (e8 f x).2.2.2.2])) (let t0 := f x; let t1 := K12.mul (((t0.1.1.1, t0.1.1.2), (t0.1.2.1.1, t0.1.2.1.2), (t0.1.2.2.1, t0.1.2.2.2)), ((t0.2.1.1, t0.2.1.2), (t0.2.2.1.1, t0.2.2.1.2), (t0.2.2.2.1, t0.2.2.2.2))) x; (.inl (.inl [t1.1.1.1, t1.1.1.2, t1.1.2.1.1, t1.1.2.1.2, t1.1.2.2.1, t1.1.2.2.2, t1.2.1.1, t1.2.1.2, t1.2.2.1.1, t1.2.2.1.2, t1.2.2.2.1, t1.2.2.2.2]), [])) [] (by kernel_rfl) aE (by kernel_rfl)))
theorem ppva {f : W12 → W12} (hf : HF f) (x : W12) : Pure Tryz.prog Gt 131 [bE x] (bE (pva f x)) := by rw [← xm]; exact I2 hf x
def Cj {f : W12 → W12} (hf : HF f) : Tb Tryz.prog Gt := (Cs hf).add (cx (g := pva f) ent131 (ppva hf))
def eX (x : W12) : W12 :=
 let t0 := bz x
 let t1 := eK x
 let t2 := K12.mul (((t0.1.1.1, t0.1.1.2), (t0.1.2.1.1, t0.1.2.1.2), (t0.1.2.2.1, t0.1.2.2.2)), ((t0.2.1.1, t0.2.1.2), (t0.2.2.1.1, t0.2.2.1.2), (t0.2.2.2.1, t0.2.2.2.2))) (((t1.1.1.1, t1.1.1.2), (t1.1.2.1.1, t1.1.2.1.2), (t1.1.2.2.1, t1.1.2.2.2)), ((t1.2.1.1, t1.2.1.2), (t1.2.2.1.1, t1.2.2.1.2), (t1.2.2.2.1, t1.2.2.2.2)))
 let t3 := bG (bG (((t2.1.1.1, t2.1.1.2), (t2.1.2.1.1, t2.1.2.1.2), (t2.1.2.2.1, t2.1.2.2.2)), ((t2.2.1.1, t2.2.1.2), (t2.2.2.1.1, t2.2.2.1.2), (t2.2.2.2.1, t2.2.2.2.2))))
 let t4 := K12.mul (((t3.1.1.1, t3.1.1.2), (t3.1.2.1.1, t3.1.2.1.2), (t3.1.2.2.1, t3.1.2.2.2)), ((t3.2.1.1, t3.2.1.2), (t3.2.2.1.1, t3.2.2.1.2), (t3.2.2.2.1, t3.2.2.2.2))) (((t2.1.1.1, t2.1.1.2), (t2.1.2.1.1, t2.1.2.1.2), (t2.1.2.2.1, t2.1.2.2.2)), ((t2.2.1.1, t2.2.1.2), (t2.2.2.1.1, t2.2.2.1.2), (t2.2.2.2.1, t2.2.2.2.2)))
 t4
theorem yW (x : W12) : eX x = pez x := by
 unfold eX
 simp only [Es]
 rfl
theorem JH {f : W12 → W12} (hf : HF f) (x : W12) : Pure Tryz.prog Gt 67 [bE x] (bE (eX x)) := (a8 (l1 (V12 _)) (V12 _) (pE (Cj hf) Tryz.func67 [.inl [x.1.1.1, x.1.1.2, x.1.2.1.1, x.1.2.1.2, x.1.2.2.1, x.1.2.2.2, x.2.1.1, x.2.1.2, x.2.2.1.1, x.2.2.1.2, x.2.2.2.1, x.2.2.2.2]] (.inl (.inl [(eX x).1.1.1, (eX x).1.1.2, (eX x).1.2.1.1, (eX x).1.2.1.2, (eX x).1.2.2.1, (eX x).1.2.2.2, (eX x).2.1.1, (eX x).2.1.2, (eX x).2.2.1.1, (eX x).2.2.1.2, (eX x).2.2.2.1, (eX x).2.2.2.2])) (let t0 := bz x; let t1 := eK x; let t2 := K12.mul (((t0.1.1.1, t0.1.1.2), (t0.1.2.1.1, t0.1.2.1.2), (t0.1.2.2.1, t0.1.2.2.2)), ((t0.2.1.1, t0.2.1.2), (t0.2.2.1.1, t0.2.2.1.2), (t0.2.2.2.1, t0.2.2.2.2))) (((t1.1.1.1, t1.1.1.2), (t1.1.2.1.1, t1.1.2.1.2), (t1.1.2.2.1, t1.1.2.2.2)), ((t1.2.1.1, t1.2.1.2), (t1.2.2.1.1, t1.2.2.1.2), (t1.2.2.2.1, t1.2.2.2.2))); let t3 := bG (bG (((t2.1.1.1, t2.1.1.2), (t2.1.2.1.1, t2.1.2.1.2), (t2.1.2.2.1, t2.1.2.2.2)), ((t2.2.1.1, t2.2.1.2), (t2.2.2.1.1, t2.2.2.1.2), (t2.2.2.2.1, t2.2.2.2.2)))); let t4 := K12.mul (((t3.1.1.1, t3.1.1.2), (t3.1.2.1.1, t3.1.2.1.2), (t3.1.2.2.1, t3.1.2.2.2)), ((t3.2.1.1, t3.2.1.2), (t3.2.2.1.1, t3.2.2.1.2), (t3.2.2.2.1, t3.2.2.2.2))) (((t2.1.1.1, t2.1.1.2), (t2.1.2.1.1, t2.1.2.1.2), (t2.1.2.2.1, t2.1.2.2.2)), ((t2.2.1.1, t2.2.1.2), (t2.2.2.1.1, t2.2.2.1.2), (t2.2.2.2.1, t2.2.2.2.2))); (.inl (.inl [t4.1.1.1, t4.1.1.2, t4.1.2.1.1, t4.1.2.1.2, t4.1.2.2.1, t4.1.2.2.2, t4.2.1.1, t4.2.1.2, t4.2.2.1.1, t4.2.2.1.2, t4.2.2.2.1, t4.2.2.2.2]), [])) [] (by kernel_rfl) aE (by kernel_rfl)))
theorem ppez {f : W12 → W12} (hf : HF f) (x : W12) : Pure Tryz.prog Gt 67 [bE x] (bE (pez x)) := by rw [← yW]; exact JH hf x
def BL {f : W12 → W12} (hf : HF f) : Tb Tryz.prog Gt := (Cj hf).add (cx (g := pez) ent67 (ppez hf))
def eY (f : W12 → W12) (x : W12) : W12 :=
 let t0 := pva f x
 let t1 := pva f (((t0.1.1.1, t0.1.1.2), (t0.1.2.1.1, t0.1.2.1.2), (t0.1.2.2.1, t0.1.2.2.2)), ((t0.2.1.1, t0.2.1.2), (t0.2.2.1.1, t0.2.2.1.2), (t0.2.2.2.1, t0.2.2.2.2)))
 let t2 := bG (((t1.1.1.1, t1.1.1.2), (t1.1.2.1.1, t1.1.2.1.2), (t1.1.2.2.1, t1.1.2.2.2)), ((t1.2.1.1, t1.2.1.2), (t1.2.2.1.1, t1.2.2.1.2), (t1.2.2.2.1, t1.2.2.2.2)))
 let t3 := f (((t1.1.1.1, t1.1.1.2), (t1.1.2.1.1, t1.1.2.1.2), (t1.1.2.2.1, t1.1.2.2.2)), ((t1.2.1.1, t1.2.1.2), (t1.2.2.1.1, t1.2.2.1.2), (t1.2.2.2.1, t1.2.2.2.2)))
 let t4 := bz (((t3.1.1.1, t3.1.1.2), (t3.1.2.1.1, t3.1.2.1.2), (t3.1.2.2.1, t3.1.2.2.2)), ((t3.2.1.1, t3.2.1.2), (t3.2.2.1.1, t3.2.2.1.2), (t3.2.2.2.1, t3.2.2.2.2)))
 let t5 := K12.mul (((t2.1.1.1, t2.1.1.2), (t2.1.2.1.1, t2.1.2.1.2), (t2.1.2.2.1, t2.1.2.2.2)), ((t2.2.1.1, t2.2.1.2), (t2.2.2.1.1, t2.2.2.1.2), (t2.2.2.2.1, t2.2.2.2.2))) (((t4.1.1.1, t4.1.1.2), (t4.1.2.1.1, t4.1.2.1.2), (t4.1.2.2.1, t4.1.2.2.2)), ((t4.2.1.1, t4.2.1.2), (t4.2.2.1.1, t4.2.2.1.2), (t4.2.2.2.1, t4.2.2.2.2)))
 let t6 := f (((t5.1.1.1, t5.1.1.2), (t5.1.2.1.1, t5.1.2.1.2), (t5.1.2.2.1, t5.1.2.2.2)), ((t5.2.1.1, t5.2.1.2), (t5.2.2.1.1, t5.2.2.1.2), (t5.2.2.2.1, t5.2.2.2.2)))
 let t7 := f (((t6.1.1.1, t6.1.1.2), (t6.1.2.1.1, t6.1.2.1.2), (t6.1.2.2.1, t6.1.2.2.2)), ((t6.2.1.1, t6.2.1.2), (t6.2.2.1.1, t6.2.2.1.2), (t6.2.2.2.1, t6.2.2.2.2)))
 let t8 := bG (bG (((t5.1.1.1, t5.1.1.2), (t5.1.2.1.1, t5.1.2.1.2), (t5.1.2.2.1, t5.1.2.2.2)), ((t5.2.1.1, t5.2.1.2), (t5.2.2.1.1, t5.2.2.1.2), (t5.2.2.2.1, t5.2.2.2.2))))
 let t9 := K12.mul (((t7.1.1.1, t7.1.1.2), (t7.1.2.1.1, t7.1.2.1.2), (t7.1.2.2.1, t7.1.2.2.2)), ((t7.2.1.1, t7.2.1.2), (t7.2.2.1.1, t7.2.2.1.2), (t7.2.2.2.1, t7.2.2.2.2))) (((t8.1.1.1, t8.1.1.2), (t8.1.2.1.1, t8.1.2.1.2), (t8.1.2.2.1, t8.1.2.2.2)), ((t8.2.1.1, t8.2.1.2), (t8.2.2.1.1, t8.2.2.1.2), (t8.2.2.2.1, t8.2.2.2.2)))
 let t10 := bz (((t5.1.1.1, t5.1.1.2), (t5.1.2.1.1, t5.1.2.1.2), (t5.1.2.2.1, t5.1.2.2.2)), ((t5.2.1.1, t5.2.1.2), (t5.2.2.1.1, t5.2.2.1.2), (t5.2.2.2.1, t5.2.2.2.2)))
 let t11 := K12.mul (((t9.1.1.1, t9.1.1.2), (t9.1.2.1.1, t9.1.2.1.2), (t9.1.2.2.1, t9.1.2.2.2)), ((t9.2.1.1, t9.2.1.2), (t9.2.2.1.1, t9.2.2.1.2), (t9.2.2.2.1, t9.2.2.2.2))) (((t10.1.1.1, t10.1.1.2), (t10.1.2.1.1, t10.1.2.1.2), (t10.1.2.2.1, t10.1.2.2.2)), ((t10.2.1.1, t10.2.1.2), (t10.2.2.1.1, t10.2.2.1.2), (t10.2.2.2.1, t10.2.2.2.2)))
 let t12 := K12.mul x x
 let t13 := K12.mul (((t11.1.1.1, t11.1.1.2), (t11.1.2.1.1, t11.1.2.1.2), (t11.1.2.2.1, t11.1.2.2.2)), ((t11.2.1.1, t11.2.1.2), (t11.2.2.1.1, t11.2.2.1.2), (t11.2.2.2.1, t11.2.2.2.2))) (((t12.1.1.1, t12.1.1.2), (t12.1.2.1.1, t12.1.2.1.2), (t12.1.2.2.1, t12.1.2.2.2)), ((t12.2.1.1, t12.2.1.2), (t12.2.2.1.1, t12.2.2.1.2), (t12.2.2.2.1, t12.2.2.2.2)))
 let t14 := K12.mul (((t13.1.1.1, t13.1.1.2), (t13.1.2.1.1, t13.1.2.1.2), (t13.1.2.2.1, t13.1.2.2.2)), ((t13.2.1.1, t13.2.1.2), (t13.2.2.1.1, t13.2.2.1.2), (t13.2.2.2.1, t13.2.2.2.2))) x
 t14
theorem vl (f : W12 → W12) (x : W12) : eY f x = phd f x := by
 unfold eY
 simp only [Es]
 rfl
theorem HZ {f : W12 → W12} (hf : HF f) (x : W12) : Pure Tryz.prog Gt 66 [bE x] (bE (eY f x)) := (a8 (l1 (V12 _)) (V12 _) (pE (BL hf) Tryz.func66 [.inl [x.1.1.1, x.1.1.2, x.1.2.1.1, x.1.2.1.2, x.1.2.2.1, x.1.2.2.2, x.2.1.1, x.2.1.2, x.2.2.1.1, x.2.2.1.2, x.2.2.2.1, x.2.2.2.2]] (.inl (.inl [(eY f x).1.1.1, (eY f x).1.1.2, (eY f x).1.2.1.1, (eY f x).1.2.1.2, (eY f x).1.2.2.1, (eY f x).1.2.2.2, (eY f x).2.1.1, (eY f x).2.1.2, (eY f x).2.2.1.1, (eY f x).2.2.1.2, (eY f x).2.2.2.1, (eY f x).2.2.2.2])) (let t0 := pva f x; let t1 := pva f (((t0.1.1.1, t0.1.1.2), (t0.1.2.1.1, t0.1.2.1.2), (t0.1.2.2.1, t0.1.2.2.2)), ((t0.2.1.1, t0.2.1.2), (t0.2.2.1.1, t0.2.2.1.2), (t0.2.2.2.1, t0.2.2.2.2))); let t2 := bG (((t1.1.1.1, t1.1.1.2), (t1.1.2.1.1, t1.1.2.1.2), (t1.1.2.2.1, t1.1.2.2.2)), ((t1.2.1.1, t1.2.1.2), (t1.2.2.1.1, t1.2.2.1.2), (t1.2.2.2.1, t1.2.2.2.2))); let t3 := f (((t1.1.1.1, t1.1.1.2), (t1.1.2.1.1, t1.1.2.1.2), (t1.1.2.2.1, t1.1.2.2.2)), ((t1.2.1.1, t1.2.1.2), (t1.2.2.1.1, t1.2.2.1.2), (t1.2.2.2.1, t1.2.2.2.2))); let t4 := bz (((t3.1.1.1, t3.1.1.2), (t3.1.2.1.1, t3.1.2.1.2), (t3.1.2.2.1, t3.1.2.2.2)), ((t3.2.1.1, t3.2.1.2), (t3.2.2.1.1, t3.2.2.1.2), (t3.2.2.2.1, t3.2.2.2.2))); let t5 := K12.mul (((t2.1.1.1, t2.1.1.2), (t2.1.2.1.1, t2.1.2.1.2), (t2.1.2.2.1, t2.1.2.2.2)), ((t2.2.1.1, t2.2.1.2), (t2.2.2.1.1, t2.2.2.1.2), (t2.2.2.2.1, t2.2.2.2.2))) (((t4.1.1.1, t4.1.1.2), (t4.1.2.1.1, t4.1.2.1.2), (t4.1.2.2.1, t4.1.2.2.2)), ((t4.2.1.1, t4.2.1.2), (t4.2.2.1.1, t4.2.2.1.2), (t4.2.2.2.1, t4.2.2.2.2))); let t6 := f (((t5.1.1.1, t5.1.1.2), (t5.1.2.1.1, t5.1.2.1.2), (t5.1.2.2.1, t5.1.2.2.2)), ((t5.2.1.1, t5.2.1.2), (t5.2.2.1.1, t5.2.2.1.2), (t5.2.2.2.1, t5.2.2.2.2))); let t7 := f (((t6.1.1.1, t6.1.1.2), (t6.1.2.1.1, t6.1.2.1.2), (t6.1.2.2.1, t6.1.2.2.2)), ((t6.2.1.1, t6.2.1.2), (t6.2.2.1.1, t6.2.2.1.2), (t6.2.2.2.1, t6.2.2.2.2))); let t8 := bG (bG (((t5.1.1.1, t5.1.1.2), (t5.1.2.1.1, t5.1.2.1.2), (t5.1.2.2.1, t5.1.2.2.2)), ((t5.2.1.1, t5.2.1.2), (t5.2.2.1.1, t5.2.2.1.2), (t5.2.2.2.1, t5.2.2.2.2)))); let t9 := K12.mul (((t7.1.1.1, t7.1.1.2), (t7.1.2.1.1, t7.1.2.1.2), (t7.1.2.2.1, t7.1.2.2.2)), ((t7.2.1.1, t7.2.1.2), (t7.2.2.1.1, t7.2.2.1.2), (t7.2.2.2.1, t7.2.2.2.2))) (((t8.1.1.1, t8.1.1.2), (t8.1.2.1.1, t8.1.2.1.2), (t8.1.2.2.1, t8.1.2.2.2)), ((t8.2.1.1, t8.2.1.2), (t8.2.2.1.1, t8.2.2.1.2), (t8.2.2.2.1, t8.2.2.2.2))); let t10 := bz (((t5.1.1.1, t5.1.1.2), (t5.1.2.1.1, t5.1.2.1.2), (t5.1.2.2.1, t5.1.2.2.2)), ((t5.2.1.1, t5.2.1.2), (t5.2.2.1.1, t5.2.2.1.2), (t5.2.2.2.1, t5.2.2.2.2))); let t11 := K12.mul (((t9.1.1.1, t9.1.1.2), (t9.1.2.1.1, t9.1.2.1.2), (t9.1.2.2.1, t9.1.2.2.2)), ((t9.2.1.1, t9.2.1.2), (t9.2.2.1.1, t9.2.2.1.2), (t9.2.2.2.1, t9.2.2.2.2))) (((t10.1.1.1, t10.1.1.2), (t10.1.2.1.1, t10.1.2.1.2), (t10.1.2.2.1, t10.1.2.2.2)), ((t10.2.1.1, t10.2.1.2), (t10.2.2.1.1, t10.2.2.1.2), (t10.2.2.2.1, t10.2.2.2.2))); let t12 := K12.mul x x; let t13 := K12.mul (((t11.1.1.1, t11.1.1.2), (t11.1.2.1.1, t11.1.2.1.2), (t11.1.2.2.1, t11.1.2.2.2)), ((t11.2.1.1, t11.2.1.2), (t11.2.2.1.1, t11.2.2.1.2), (t11.2.2.2.1, t11.2.2.2.2))) (((t12.1.1.1, t12.1.1.2), (t12.1.2.1.1, t12.1.2.1.2), (t12.1.2.2.1, t12.1.2.2.2)), ((t12.2.1.1, t12.2.1.2), (t12.2.2.1.1, t12.2.2.1.2), (t12.2.2.2.1, t12.2.2.2.2))); let t14 := K12.mul (((t13.1.1.1, t13.1.1.2), (t13.1.2.1.1, t13.1.2.1.2), (t13.1.2.2.1, t13.1.2.2.2)), ((t13.2.1.1, t13.2.1.2), (t13.2.2.1.1, t13.2.2.1.2), (t13.2.2.2.1, t13.2.2.2.2))) x; (.inl (.inl [t14.1.1.1, t14.1.1.2, t14.1.2.1.1, t14.1.2.1.2, t14.1.2.2.1, t14.1.2.2.2, t14.2.1.1, t14.2.1.2, t14.2.2.1.1, t14.2.2.1.2, t14.2.2.2.1, t14.2.2.2.2]), [])) [] (by kernel_rfl) aE (by kernel_rfl)))
theorem pphd {f : W12 → W12} (hf : HF f) (x : W12) : Pure Tryz.prog Gt 66 [bE x] (bE (phd f x)) := by rw [← vl]; exact HZ hf x
def Hb {f : W12 → W12} (hf : HF f) : Tb Tryz.prog Gt := (BL hf).add (cx (g := phd f) ent66 (pphd hf))
theorem z0 {f : W12 → W12} (hf : HF f) (x : W12) : Pure Tryz.prog Gt 24 [bE x] (bE (phd f (pez x))) := (a8 (l1 (V12 _)) (V12 _) (pE (Hb hf) Tryz.func24 [.inl [x.1.1.1, x.1.1.2, x.1.2.1.1, x.1.2.1.2, x.1.2.2.1, x.1.2.2.2, x.2.1.1, x.2.1.2, x.2.2.1.1, x.2.2.1.2, x.2.2.2.1, x.2.2.2.2]] (.inl (.inl [(phd f (pez x)).1.1.1, (phd f (pez x)).1.1.2, (phd f (pez x)).1.2.1.1, (phd f (pez x)).1.2.1.2, (phd f (pez x)).1.2.2.1, (phd f (pez x)).1.2.2.2, (phd f (pez x)).2.1.1, (phd f (pez x)).2.1.2, (phd f (pez x)).2.2.1.1, (phd f (pez x)).2.2.1.2, (phd f (pez x)).2.2.2.1, (phd f (pez x)).2.2.2.2])) (let t0 := pez x; let t1 := phd f (((t0.1.1.1, t0.1.1.2), (t0.1.2.1.1, t0.1.2.1.2), (t0.1.2.2.1, t0.1.2.2.2)), ((t0.2.1.1, t0.2.1.2), (t0.2.2.1.1, t0.2.2.1.2), (t0.2.2.2.1, t0.2.2.2.2))); (.inl (.inl [t1.1.1.1, t1.1.1.2, t1.1.2.1.1, t1.1.2.1.2, t1.1.2.2.1, t1.1.2.2.2, t1.2.1.1, t1.2.1.2, t1.2.2.1.1, t1.2.2.1.2, t1.2.2.2.1, t1.2.2.2.2]), [])) [] (by kernel_rfl) aE (by kernel_rfl)))
theorem vB (x : W12) : Pure Tryz.prog Gt 24 [bE x] (bE (io UG x)) := by rw [E8]; exact z0 Jm x
end Q6
end Go.Proofs.YtpnpiblphnpfiaaGreatDoor
