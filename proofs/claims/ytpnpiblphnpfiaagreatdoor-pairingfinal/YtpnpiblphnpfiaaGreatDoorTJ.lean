/-
 The program's long power; Pairing, Check.
-/
import Derived.Test.YtpnpiblphnpfiaaGreatDoorTI
import Derived.Test.YtpnpiblphnpfiaaGreatDoorXF
import Derived.Test.YtpnpiblphnpfiaaGreatDoorX5
namespace Go.Proofs.YtpnpiblphnpfiaaGreatDoor
open Go.RowKit
set_option maxRecDepth 100000
set_option maxHeartbeats 1000000
attribute [local simp] aZ bk aF aA aN aW aL aK aR PLl cy cx N1l cv cw cz bh bl aX bi ba J1.bu J2.bu Q6.cG Q6.dx
theorem rTJ {Q P : Prop} (k : Q) (h : Q → P := by intro k; (refine LY.run ?_); (repeat (first | refine bC rfl rfl rfl ?_ | refine bc rfl rfl rfl ?_ | ((refine sS rfl rfl ?_ rfl rfl ?_); (· simp)) | ((refine oY hGF rfl rfl rfl ?_ ?_ (ak _) rfl ?_); (· simp); (· simp)))); (first | refine bV ?_ | refine LY.mk ?_); exact k) : P := h k
theorem pTJ {Q P : Prop} (k : Q) (h : Q → P := by intro k; (refine xp ?_); (refine rTJ ?_); exact k) : P := h k

theorem ent133 : ac Tryz.prog 133 := fun _ _ => by kernel_rfl
theorem ent131 : ac Tryz.prog 131 := fun _ _ => by kernel_rfl
theorem ent67 : ac Tryz.prog 67 := fun _ _ => by kernel_rfl
theorem ent66 : ac Tryz.prog 66 := fun _ _ => by kernel_rfl
theorem ent24 : ac Tryz.prog 24 := fun _ _ => by kernel_rfl
theorem ent18 : ac Tryz.prog 18 := fun _ _ => by kernel_rfl
theorem ent38 : ac Tryz.prog 38 := fun _ _ => by kernel_rfl
namespace Q6
def pwu (u : Nat) (x : W12) : W12 := K12.pw x u
theorem ED (x : W12) : Pure Tryz.prog Gt 133 [bv x] (bv (pwu UG x)) := by
 intro w hw
 have hGF : BOk Gt (pl w) := gt_low.plain hw
 refine ce (G := Gt) Tryz.func133 rfl rfl (Hp (pl w) []) (a8 (pl w) trivial aq) (az hGF) ?_
 refine xp ?_
 refine lb fun b1 => ?_
 refine la zv49 fun b2 => ?_
 refine aa ?_
 refine pTJ ?_
 refine la zv49 fun b3 => ?_
 refine rTJ ?_
 refine ao ?_
 refine xp ?_
 refine lc ent112 (pO) ?_
 refine aa ?_
 refine ap ?_
 refine d9 (fun _ => pl w) (fun _ _ => pl w) (fun _ => hGF) (fun _ _ => hGF) (fun _ => rfl) (fun _ _ => rfl) rfl rfl ent158 iz (fun x hx => by obtain ⟨k, hk, rfl⟩ := List.mem_map.1 hx; rfl) rfl (fun k => [(1, b1, dC x, 49), (2, b2, (((fe 0 ++ fe 0) ++ ((fe 0 ++ fe 0) ++ (fe 0 ++ fe 0))) ++ ((fe 0 ++ fe 0) ++ ((fe 0 ++ fe 0) ++ (fe 0 ++ fe 0)))).map U64, 49), (3, b3, dC (pwD x k), 49)]) (fun _ _ _ => False) ⟨rfl, rfl, by rw [show pwD x 0 = x from K12.pw_one x]; rfl, trivial⟩ (fun _ _ _ _ => trivial) ?_ ?_ (fun _ _ _ _ _ h => h.elim)
 ·intro k v hx R hR
  obtain ⟨hk, rfl⟩ := m5 hx
  refine av (E := EE []) ?_
  refine rTJ ?_
  refine ⟨rfl, _, rfl, ?_⟩
  refine ap ?_
  refine pTJ ?_
  refine lc ent82 (gy _) ?_
  refine ai 3 (hR (pl w) rfl hGF).2.1 rfl rfl rfl Tryz.sizeOf49 (by simp) (by simp) (ak _) rfl ?_
  refine aa ?_
  refine pTJ ?_
  refine bG rfl (fun hc => ?_) (fun hc => ?_)
  ·have hd : DGb k = true := by simpa using hc
   refine av (E := EE []) ?_
   refine rTJ ?_
   refine lc ent35 (p8 _ _) ?_
   refine ai 3 (hR (pl w) rfl hGF).2.1 rfl rfl rfl Tryz.sizeOf49 (by simp) (by simp) (ak _) rfl ?_
   refine aa ?_
   repeat (first | refine aT ?_ | refine ck ?_)
   exact ⟨_, rfl, ⟨rfl, rfl, by first | (rw [← uk x hk hd]; rfl) | (rw [← vj x hk hd]; rfl), trivial⟩⟩
  ·have hd : DGb k = false := by simpa using hc
   refine aE ?_
   repeat (first | refine aT ?_ | refine ck ?_)
   exact ⟨_, rfl, ⟨rfl, rfl, by first | (rw [← uk x hk hd]; rfl) | (rw [← vj x hk hd]; rfl), trivial⟩⟩
 ·intro D hD
  rw [gG]
  refine pTJ ?_
  refine ai 2 hD rfl rfl rfl Tryz.sizeOf49 (by simp) (by simp) (ak _) rfl ?_
  refine aa ?_
  refine rt ?_
  exact df (.inl rfl) aq (aw 2 rfl rfl rfl Tryz.isAgg49 Tryz.sizeOf49 (by simp) (fun w hw => ⟨by rw [pwu, ← tt], ah hw⟩))
abbrev HF (f : W12 → W12) : Prop := ∀ x, Pure Tryz.prog Gt 133 [bv x] (bv (f x))
def agI (m : Nat) : Ag Unit where
 of := fun v => match v with
  | .inr (.inr (.inl (.int .i64 (.ofNat n)))) => bif Nat.beq n m then some () else none
  | _ => none
 dn := fun _ => I (m : Int)
 ok := fun v x r h => by
  split at h
  ·rename_i n
   obtain ⟨h1, h⟩ := dd h
   show Value.int .i64 (Int.ofNat n) = I (m : Int)
   rw [Nat.eq_of_beq_eq_true h1]; rfl
  ·cases h
theorem DQ (x : W12) : Pure Tryz.prog Gt 132 [bv x, I 1] (bv (bS x)) := rB x 1
theorem Da (x : W12) : Pure Tryz.prog Gt 132 [bv x, I 2] (bv (bS (bS x))) := rB x 2
theorem wfr {f : Nat} {g : W12 → W12} (m : Nat) (en : ac Tryz.prog f) (h : ∀ a, Pure Tryz.prog Gt f [bv a, I (m : Int)] (bv (g a))) : Snd Tryz.prog Gt f (c2 q12.ag (agI m) q12.rd (fun a _ => g a)) := dk q12.ag (agI m) q12.rd en (fun a _ => a5 (l2 (V12 _).symm rfl) (V12 _).symm (h a))
def GI {f : W12 → W12} (hf : HF f) : Tb Tryz.prog Gt := TO235.add (cp (g := f) ent133 hf)
def Fa {f : W12 → W12} (hf : HF f) : Tb Tryz.prog Gt := (GI hf).add (wfr (g := bS) 1 ent132 DQ)
def zW {f : W12 → W12} (hf : HF f) : Tb Tryz.prog Gt := (Fa hf).add (wfr (g := fun x => bS (bS x)) 2 ent132 Da)
theorem Dp {α β : Type} (p : α × β) : (p.1, p.2) = p := by cases p; rfl
def pva (f : W12 → W12) (x : W12) : W12 := K12.mul (f x) x
def pez (x : W12) : W12 := fi2 (fi1 x)
def ph1 (f : W12 → W12) (x : W12) : W12 := K12.mul (bS x) (bw (f x))
def ph2 (f : W12 → W12) (x : W12) : W12 := K12.mul (K12.mul (f (f x)) (bS (bS x))) (bw x)
def phd (f : W12 → W12) (x : W12) : W12 := K12.mul (K12.mul (ph2 f (ph1 f (pva f (pva f x)))) (K12.mul x x)) x
theorem DL {p6 : Nat} (h6 : ∀ x, bw x = K12.pw x p6) (x : W12) (u : Nat) : bw (K12.pw x u) = K12.pw (bw x) u := by rw [h6, h6, ← K12.pw_mul, ← K12.pw_mul, Nat.mul_comm]
theorem mg (x : W12) (u : Nat) : bw (K12.pw x u) = K12.pw (bw x) u := DL (fun x => (qj x).symm) x u
theorem tK (u : Nat) (x : W12) : fi3 u x = bw (pva (pwu u) x) := by rw [fi3, tnd, ← go, pva, pwu]
theorem Cx (u : Nat) (x : W12) : pva (pwu u) (bw x) = bw (pva (pwu u) x) := by rw [pva, pva, pwu, pwu, ← mg, ← go]
theorem EY (u : Nat) (x : W12) : pva (pwu u) (pva (pwu u) x) = fi3 u (fi3 u x) := by rw [tK, tK, Cx, jA]
theorem CY (u : Nat) (x : W12) : ph1 (pwu u) x = fi4 u x := by rw [ph1, fi4, tnd, pwu]; exact K12.mul_comm _ _
theorem Cq (u : Nat) (x : W12) : ph2 (pwu u) x = fi5 u x := by rw [ph2, fi5, tnd, tnd, ← mg, jA, pwu, pwu]
theorem CR (u : Nat) (x : W12) : phd (pwu u) x = fi6 u x := by
 rw [phd, EY, CY, Cq]
 show K12.mul (K12.mul _ (K12.mul _ _)) _ = K12.mul (K12.mul (K12.mul _ _) _) _
 rw [← K12.mul_assoc]
theorem CF (u : Nat) (x : W12) : gX u x = phd (pwu u) (pez x) := by rw [gX, CR, pez]
def ew (f : W12 → W12) (x : W12) : W12 :=
 let t0 := f x
 let t1 := K12.mul (((t0.1.1.1, t0.1.1.2), (t0.1.2.1.1, t0.1.2.1.2), (t0.1.2.2.1, t0.1.2.2.2)), ((t0.2.1.1, t0.2.1.2), (t0.2.2.1.1, t0.2.2.1.2), (t0.2.2.2.1, t0.2.2.2.2))) x
 t1
theorem wA (f : W12 → W12) (x : W12) : ew f x = pva f x := by
 unfold ew
 simp only [Dp]
 rfl
theorem Hn {f : W12 → W12} (hf : HF f) (x : W12) : Pure Tryz.prog Gt 131 [bv x] (bv (ew f x)) := (a5 (l1 (V12 _)) (V12 _) (pE (zW hf) Tryz.func131 [.inl [x.1.1.1, x.1.1.2, x.1.2.1.1, x.1.2.1.2, x.1.2.2.1, x.1.2.2.2, x.2.1.1, x.2.1.2, x.2.2.1.1, x.2.2.1.2, x.2.2.2.1, x.2.2.2.2]] (.inl (.inl [(ew f x).1.1.1, (ew f x).1.1.2, (ew f x).1.2.1.1, (ew f x).1.2.1.2, (ew f x).1.2.2.1, (ew f x).1.2.2.2, (ew f x).2.1.1, (ew f x).2.1.2, (ew f x).2.2.1.1, (ew f x).2.2.1.2, (ew f x).2.2.2.1, (ew f x).2.2.2.2])) (let t0 := f x; let t1 := K12.mul (((t0.1.1.1, t0.1.1.2), (t0.1.2.1.1, t0.1.2.1.2), (t0.1.2.2.1, t0.1.2.2.2)), ((t0.2.1.1, t0.2.1.2), (t0.2.2.1.1, t0.2.2.1.2), (t0.2.2.2.1, t0.2.2.2.2))) x; (.inl (.inl [t1.1.1.1, t1.1.1.2, t1.1.2.1.1, t1.1.2.1.2, t1.1.2.2.1, t1.1.2.2.2, t1.2.1.1, t1.2.1.2, t1.2.2.1.1, t1.2.2.1.2, t1.2.2.2.1, t1.2.2.2.2]), [])) [] (by kernel_rfl) aD (by kernel_rfl)))
theorem ppva {f : W12 → W12} (hf : HF f) (x : W12) : Pure Tryz.prog Gt 131 [bv x] (bv (pva f x)) := by rw [← wA]; exact Hn hf x
def Ab {f : W12 → W12} (hf : HF f) : Tb Tryz.prog Gt := (zW hf).add (cp (g := pva f) ent131 (ppva hf))
def eG (x : W12) : W12 :=
 let t0 := bw x
 let t1 := d8 x
 let t2 := K12.mul (((t0.1.1.1, t0.1.1.2), (t0.1.2.1.1, t0.1.2.1.2), (t0.1.2.2.1, t0.1.2.2.2)), ((t0.2.1.1, t0.2.1.2), (t0.2.2.1.1, t0.2.2.1.2), (t0.2.2.2.1, t0.2.2.2.2))) (((t1.1.1.1, t1.1.1.2), (t1.1.2.1.1, t1.1.2.1.2), (t1.1.2.2.1, t1.1.2.2.2)), ((t1.2.1.1, t1.2.1.2), (t1.2.2.1.1, t1.2.2.1.2), (t1.2.2.2.1, t1.2.2.2.2)))
 let t3 := bS (bS (((t2.1.1.1, t2.1.1.2), (t2.1.2.1.1, t2.1.2.1.2), (t2.1.2.2.1, t2.1.2.2.2)), ((t2.2.1.1, t2.2.1.2), (t2.2.2.1.1, t2.2.2.1.2), (t2.2.2.2.1, t2.2.2.2.2))))
 let t4 := K12.mul (((t3.1.1.1, t3.1.1.2), (t3.1.2.1.1, t3.1.2.1.2), (t3.1.2.2.1, t3.1.2.2.2)), ((t3.2.1.1, t3.2.1.2), (t3.2.2.1.1, t3.2.2.1.2), (t3.2.2.2.1, t3.2.2.2.2))) (((t2.1.1.1, t2.1.1.2), (t2.1.2.1.1, t2.1.2.1.2), (t2.1.2.2.1, t2.1.2.2.2)), ((t2.2.1.1, t2.2.1.2), (t2.2.2.1.1, t2.2.2.1.2), (t2.2.2.2.1, t2.2.2.2.2)))
 t4
theorem w6 (x : W12) : eG x = pez x := by
 unfold eG
 simp only [Dp]
 rfl
theorem Hj {f : W12 → W12} (hf : HF f) (x : W12) : Pure Tryz.prog Gt 67 [bv x] (bv (eG x)) := (a5 (l1 (V12 _)) (V12 _) (pE (Ab hf) Tryz.func67 [.inl [x.1.1.1, x.1.1.2, x.1.2.1.1, x.1.2.1.2, x.1.2.2.1, x.1.2.2.2, x.2.1.1, x.2.1.2, x.2.2.1.1, x.2.2.1.2, x.2.2.2.1, x.2.2.2.2]] (.inl (.inl [(eG x).1.1.1, (eG x).1.1.2, (eG x).1.2.1.1, (eG x).1.2.1.2, (eG x).1.2.2.1, (eG x).1.2.2.2, (eG x).2.1.1, (eG x).2.1.2, (eG x).2.2.1.1, (eG x).2.2.1.2, (eG x).2.2.2.1, (eG x).2.2.2.2])) (let t0 := bw x; let t1 := d8 x; let t2 := K12.mul (((t0.1.1.1, t0.1.1.2), (t0.1.2.1.1, t0.1.2.1.2), (t0.1.2.2.1, t0.1.2.2.2)), ((t0.2.1.1, t0.2.1.2), (t0.2.2.1.1, t0.2.2.1.2), (t0.2.2.2.1, t0.2.2.2.2))) (((t1.1.1.1, t1.1.1.2), (t1.1.2.1.1, t1.1.2.1.2), (t1.1.2.2.1, t1.1.2.2.2)), ((t1.2.1.1, t1.2.1.2), (t1.2.2.1.1, t1.2.2.1.2), (t1.2.2.2.1, t1.2.2.2.2))); let t3 := bS (bS (((t2.1.1.1, t2.1.1.2), (t2.1.2.1.1, t2.1.2.1.2), (t2.1.2.2.1, t2.1.2.2.2)), ((t2.2.1.1, t2.2.1.2), (t2.2.2.1.1, t2.2.2.1.2), (t2.2.2.2.1, t2.2.2.2.2)))); let t4 := K12.mul (((t3.1.1.1, t3.1.1.2), (t3.1.2.1.1, t3.1.2.1.2), (t3.1.2.2.1, t3.1.2.2.2)), ((t3.2.1.1, t3.2.1.2), (t3.2.2.1.1, t3.2.2.1.2), (t3.2.2.2.1, t3.2.2.2.2))) (((t2.1.1.1, t2.1.1.2), (t2.1.2.1.1, t2.1.2.1.2), (t2.1.2.2.1, t2.1.2.2.2)), ((t2.2.1.1, t2.2.1.2), (t2.2.2.1.1, t2.2.2.1.2), (t2.2.2.2.1, t2.2.2.2.2))); (.inl (.inl [t4.1.1.1, t4.1.1.2, t4.1.2.1.1, t4.1.2.1.2, t4.1.2.2.1, t4.1.2.2.2, t4.2.1.1, t4.2.1.2, t4.2.2.1.1, t4.2.2.1.2, t4.2.2.2.1, t4.2.2.2.2]), [])) [] (by kernel_rfl) aD (by kernel_rfl)))
theorem ppez {f : W12 → W12} (hf : HF f) (x : W12) : Pure Tryz.prog Gt 67 [bv x] (bv (pez x)) := by rw [← w6]; exact Hj hf x
def Ai {f : W12 → W12} (hf : HF f) : Tb Tryz.prog Gt := (Ab hf).add (cp (g := pez) ent67 (ppez hf))
def eH (f : W12 → W12) (x : W12) : W12 :=
 let t0 := pva f x
 let t1 := pva f (((t0.1.1.1, t0.1.1.2), (t0.1.2.1.1, t0.1.2.1.2), (t0.1.2.2.1, t0.1.2.2.2)), ((t0.2.1.1, t0.2.1.2), (t0.2.2.1.1, t0.2.2.1.2), (t0.2.2.2.1, t0.2.2.2.2)))
 let t2 := bS (((t1.1.1.1, t1.1.1.2), (t1.1.2.1.1, t1.1.2.1.2), (t1.1.2.2.1, t1.1.2.2.2)), ((t1.2.1.1, t1.2.1.2), (t1.2.2.1.1, t1.2.2.1.2), (t1.2.2.2.1, t1.2.2.2.2)))
 let t3 := f (((t1.1.1.1, t1.1.1.2), (t1.1.2.1.1, t1.1.2.1.2), (t1.1.2.2.1, t1.1.2.2.2)), ((t1.2.1.1, t1.2.1.2), (t1.2.2.1.1, t1.2.2.1.2), (t1.2.2.2.1, t1.2.2.2.2)))
 let t4 := bw (((t3.1.1.1, t3.1.1.2), (t3.1.2.1.1, t3.1.2.1.2), (t3.1.2.2.1, t3.1.2.2.2)), ((t3.2.1.1, t3.2.1.2), (t3.2.2.1.1, t3.2.2.1.2), (t3.2.2.2.1, t3.2.2.2.2)))
 let t5 := K12.mul (((t2.1.1.1, t2.1.1.2), (t2.1.2.1.1, t2.1.2.1.2), (t2.1.2.2.1, t2.1.2.2.2)), ((t2.2.1.1, t2.2.1.2), (t2.2.2.1.1, t2.2.2.1.2), (t2.2.2.2.1, t2.2.2.2.2))) (((t4.1.1.1, t4.1.1.2), (t4.1.2.1.1, t4.1.2.1.2), (t4.1.2.2.1, t4.1.2.2.2)), ((t4.2.1.1, t4.2.1.2), (t4.2.2.1.1, t4.2.2.1.2), (t4.2.2.2.1, t4.2.2.2.2)))
 let t6 := f (((t5.1.1.1, t5.1.1.2), (t5.1.2.1.1, t5.1.2.1.2), (t5.1.2.2.1, t5.1.2.2.2)), ((t5.2.1.1, t5.2.1.2), (t5.2.2.1.1, t5.2.2.1.2), (t5.2.2.2.1, t5.2.2.2.2)))
 let t7 := f (((t6.1.1.1, t6.1.1.2), (t6.1.2.1.1, t6.1.2.1.2), (t6.1.2.2.1, t6.1.2.2.2)), ((t6.2.1.1, t6.2.1.2), (t6.2.2.1.1, t6.2.2.1.2), (t6.2.2.2.1, t6.2.2.2.2)))
 let t8 := bS (bS (((t5.1.1.1, t5.1.1.2), (t5.1.2.1.1, t5.1.2.1.2), (t5.1.2.2.1, t5.1.2.2.2)), ((t5.2.1.1, t5.2.1.2), (t5.2.2.1.1, t5.2.2.1.2), (t5.2.2.2.1, t5.2.2.2.2))))
 let t9 := K12.mul (((t7.1.1.1, t7.1.1.2), (t7.1.2.1.1, t7.1.2.1.2), (t7.1.2.2.1, t7.1.2.2.2)), ((t7.2.1.1, t7.2.1.2), (t7.2.2.1.1, t7.2.2.1.2), (t7.2.2.2.1, t7.2.2.2.2))) (((t8.1.1.1, t8.1.1.2), (t8.1.2.1.1, t8.1.2.1.2), (t8.1.2.2.1, t8.1.2.2.2)), ((t8.2.1.1, t8.2.1.2), (t8.2.2.1.1, t8.2.2.1.2), (t8.2.2.2.1, t8.2.2.2.2)))
 let t10 := bw (((t5.1.1.1, t5.1.1.2), (t5.1.2.1.1, t5.1.2.1.2), (t5.1.2.2.1, t5.1.2.2.2)), ((t5.2.1.1, t5.2.1.2), (t5.2.2.1.1, t5.2.2.1.2), (t5.2.2.2.1, t5.2.2.2.2)))
 let t11 := K12.mul (((t9.1.1.1, t9.1.1.2), (t9.1.2.1.1, t9.1.2.1.2), (t9.1.2.2.1, t9.1.2.2.2)), ((t9.2.1.1, t9.2.1.2), (t9.2.2.1.1, t9.2.2.1.2), (t9.2.2.2.1, t9.2.2.2.2))) (((t10.1.1.1, t10.1.1.2), (t10.1.2.1.1, t10.1.2.1.2), (t10.1.2.2.1, t10.1.2.2.2)), ((t10.2.1.1, t10.2.1.2), (t10.2.2.1.1, t10.2.2.1.2), (t10.2.2.2.1, t10.2.2.2.2)))
 let t12 := K12.mul x x
 let t13 := K12.mul (((t11.1.1.1, t11.1.1.2), (t11.1.2.1.1, t11.1.2.1.2), (t11.1.2.2.1, t11.1.2.2.2)), ((t11.2.1.1, t11.2.1.2), (t11.2.2.1.1, t11.2.2.1.2), (t11.2.2.2.1, t11.2.2.2.2))) (((t12.1.1.1, t12.1.1.2), (t12.1.2.1.1, t12.1.2.1.2), (t12.1.2.2.1, t12.1.2.2.2)), ((t12.2.1.1, t12.2.1.2), (t12.2.2.1.1, t12.2.2.1.2), (t12.2.2.2.1, t12.2.2.2.2)))
 let t14 := K12.mul (((t13.1.1.1, t13.1.1.2), (t13.1.2.1.1, t13.1.2.1.2), (t13.1.2.2.1, t13.1.2.2.2)), ((t13.2.1.1, t13.2.1.2), (t13.2.2.1.1, t13.2.2.1.2), (t13.2.2.2.1, t13.2.2.2.2))) x
 t14
theorem tV (f : W12 → W12) (x : W12) : eH f x = phd f x := by
 unfold eH
 simp only [Dp]
 rfl
theorem GE {f : W12 → W12} (hf : HF f) (x : W12) : Pure Tryz.prog Gt 66 [bv x] (bv (eH f x)) := (a5 (l1 (V12 _)) (V12 _) (pE (Ai hf) Tryz.func66 [.inl [x.1.1.1, x.1.1.2, x.1.2.1.1, x.1.2.1.2, x.1.2.2.1, x.1.2.2.2, x.2.1.1, x.2.1.2, x.2.2.1.1, x.2.2.1.2, x.2.2.2.1, x.2.2.2.2]] (.inl (.inl [(eH f x).1.1.1, (eH f x).1.1.2, (eH f x).1.2.1.1, (eH f x).1.2.1.2, (eH f x).1.2.2.1, (eH f x).1.2.2.2, (eH f x).2.1.1, (eH f x).2.1.2, (eH f x).2.2.1.1, (eH f x).2.2.1.2, (eH f x).2.2.2.1, (eH f x).2.2.2.2])) (let t0 := pva f x; let t1 := pva f (((t0.1.1.1, t0.1.1.2), (t0.1.2.1.1, t0.1.2.1.2), (t0.1.2.2.1, t0.1.2.2.2)), ((t0.2.1.1, t0.2.1.2), (t0.2.2.1.1, t0.2.2.1.2), (t0.2.2.2.1, t0.2.2.2.2))); let t2 := bS (((t1.1.1.1, t1.1.1.2), (t1.1.2.1.1, t1.1.2.1.2), (t1.1.2.2.1, t1.1.2.2.2)), ((t1.2.1.1, t1.2.1.2), (t1.2.2.1.1, t1.2.2.1.2), (t1.2.2.2.1, t1.2.2.2.2))); let t3 := f (((t1.1.1.1, t1.1.1.2), (t1.1.2.1.1, t1.1.2.1.2), (t1.1.2.2.1, t1.1.2.2.2)), ((t1.2.1.1, t1.2.1.2), (t1.2.2.1.1, t1.2.2.1.2), (t1.2.2.2.1, t1.2.2.2.2))); let t4 := bw (((t3.1.1.1, t3.1.1.2), (t3.1.2.1.1, t3.1.2.1.2), (t3.1.2.2.1, t3.1.2.2.2)), ((t3.2.1.1, t3.2.1.2), (t3.2.2.1.1, t3.2.2.1.2), (t3.2.2.2.1, t3.2.2.2.2))); let t5 := K12.mul (((t2.1.1.1, t2.1.1.2), (t2.1.2.1.1, t2.1.2.1.2), (t2.1.2.2.1, t2.1.2.2.2)), ((t2.2.1.1, t2.2.1.2), (t2.2.2.1.1, t2.2.2.1.2), (t2.2.2.2.1, t2.2.2.2.2))) (((t4.1.1.1, t4.1.1.2), (t4.1.2.1.1, t4.1.2.1.2), (t4.1.2.2.1, t4.1.2.2.2)), ((t4.2.1.1, t4.2.1.2), (t4.2.2.1.1, t4.2.2.1.2), (t4.2.2.2.1, t4.2.2.2.2))); let t6 := f (((t5.1.1.1, t5.1.1.2), (t5.1.2.1.1, t5.1.2.1.2), (t5.1.2.2.1, t5.1.2.2.2)), ((t5.2.1.1, t5.2.1.2), (t5.2.2.1.1, t5.2.2.1.2), (t5.2.2.2.1, t5.2.2.2.2))); let t7 := f (((t6.1.1.1, t6.1.1.2), (t6.1.2.1.1, t6.1.2.1.2), (t6.1.2.2.1, t6.1.2.2.2)), ((t6.2.1.1, t6.2.1.2), (t6.2.2.1.1, t6.2.2.1.2), (t6.2.2.2.1, t6.2.2.2.2))); let t8 := bS (bS (((t5.1.1.1, t5.1.1.2), (t5.1.2.1.1, t5.1.2.1.2), (t5.1.2.2.1, t5.1.2.2.2)), ((t5.2.1.1, t5.2.1.2), (t5.2.2.1.1, t5.2.2.1.2), (t5.2.2.2.1, t5.2.2.2.2)))); let t9 := K12.mul (((t7.1.1.1, t7.1.1.2), (t7.1.2.1.1, t7.1.2.1.2), (t7.1.2.2.1, t7.1.2.2.2)), ((t7.2.1.1, t7.2.1.2), (t7.2.2.1.1, t7.2.2.1.2), (t7.2.2.2.1, t7.2.2.2.2))) (((t8.1.1.1, t8.1.1.2), (t8.1.2.1.1, t8.1.2.1.2), (t8.1.2.2.1, t8.1.2.2.2)), ((t8.2.1.1, t8.2.1.2), (t8.2.2.1.1, t8.2.2.1.2), (t8.2.2.2.1, t8.2.2.2.2))); let t10 := bw (((t5.1.1.1, t5.1.1.2), (t5.1.2.1.1, t5.1.2.1.2), (t5.1.2.2.1, t5.1.2.2.2)), ((t5.2.1.1, t5.2.1.2), (t5.2.2.1.1, t5.2.2.1.2), (t5.2.2.2.1, t5.2.2.2.2))); let t11 := K12.mul (((t9.1.1.1, t9.1.1.2), (t9.1.2.1.1, t9.1.2.1.2), (t9.1.2.2.1, t9.1.2.2.2)), ((t9.2.1.1, t9.2.1.2), (t9.2.2.1.1, t9.2.2.1.2), (t9.2.2.2.1, t9.2.2.2.2))) (((t10.1.1.1, t10.1.1.2), (t10.1.2.1.1, t10.1.2.1.2), (t10.1.2.2.1, t10.1.2.2.2)), ((t10.2.1.1, t10.2.1.2), (t10.2.2.1.1, t10.2.2.1.2), (t10.2.2.2.1, t10.2.2.2.2))); let t12 := K12.mul x x; let t13 := K12.mul (((t11.1.1.1, t11.1.1.2), (t11.1.2.1.1, t11.1.2.1.2), (t11.1.2.2.1, t11.1.2.2.2)), ((t11.2.1.1, t11.2.1.2), (t11.2.2.1.1, t11.2.2.1.2), (t11.2.2.2.1, t11.2.2.2.2))) (((t12.1.1.1, t12.1.1.2), (t12.1.2.1.1, t12.1.2.1.2), (t12.1.2.2.1, t12.1.2.2.2)), ((t12.2.1.1, t12.2.1.2), (t12.2.2.1.1, t12.2.2.1.2), (t12.2.2.2.1, t12.2.2.2.2))); let t14 := K12.mul (((t13.1.1.1, t13.1.1.2), (t13.1.2.1.1, t13.1.2.1.2), (t13.1.2.2.1, t13.1.2.2.2)), ((t13.2.1.1, t13.2.1.2), (t13.2.2.1.1, t13.2.2.1.2), (t13.2.2.2.1, t13.2.2.2.2))) x; (.inl (.inl [t14.1.1.1, t14.1.1.2, t14.1.2.1.1, t14.1.2.1.2, t14.1.2.2.1, t14.1.2.2.2, t14.2.1.1, t14.2.1.2, t14.2.2.1.1, t14.2.2.1.2, t14.2.2.2.1, t14.2.2.2.2]), [])) [] (by kernel_rfl) aD (by kernel_rfl)))
theorem pphd {f : W12 → W12} (hf : HF f) (x : W12) : Pure Tryz.prog Gt 66 [bv x] (bv (phd f x)) := by rw [← tV]; exact GE hf x
def Gp {f : W12 → W12} (hf : HF f) : Tb Tryz.prog Gt := (Ai hf).add (cp (g := phd f) ent66 (pphd hf))
theorem yq {f : W12 → W12} (hf : HF f) (x : W12) : Pure Tryz.prog Gt 24 [bv x] (bv (phd f (pez x))) := (a5 (l1 (V12 _)) (V12 _) (pE (Gp hf) Tryz.func24 [.inl [x.1.1.1, x.1.1.2, x.1.2.1.1, x.1.2.1.2, x.1.2.2.1, x.1.2.2.2, x.2.1.1, x.2.1.2, x.2.2.1.1, x.2.2.1.2, x.2.2.2.1, x.2.2.2.2]] (.inl (.inl [(phd f (pez x)).1.1.1, (phd f (pez x)).1.1.2, (phd f (pez x)).1.2.1.1, (phd f (pez x)).1.2.1.2, (phd f (pez x)).1.2.2.1, (phd f (pez x)).1.2.2.2, (phd f (pez x)).2.1.1, (phd f (pez x)).2.1.2, (phd f (pez x)).2.2.1.1, (phd f (pez x)).2.2.1.2, (phd f (pez x)).2.2.2.1, (phd f (pez x)).2.2.2.2])) (let t0 := pez x; let t1 := phd f (((t0.1.1.1, t0.1.1.2), (t0.1.2.1.1, t0.1.2.1.2), (t0.1.2.2.1, t0.1.2.2.2)), ((t0.2.1.1, t0.2.1.2), (t0.2.2.1.1, t0.2.2.1.2), (t0.2.2.2.1, t0.2.2.2.2))); (.inl (.inl [t1.1.1.1, t1.1.1.2, t1.1.2.1.1, t1.1.2.1.2, t1.1.2.2.1, t1.1.2.2.2, t1.2.1.1, t1.2.1.2, t1.2.2.1.1, t1.2.2.1.2, t1.2.2.2.1, t1.2.2.2.2]), [])) [] (by kernel_rfl) aD (by kernel_rfl)))
theorem mp (x : W12) : Pure Tryz.prog Gt 24 [bv x] (bv (gX UG x)) := by rw [CF]; exact yq ED x
end Q6
end Go.Proofs.YtpnpiblphnpfiaaGreatDoor
