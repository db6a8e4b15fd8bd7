/-
 The program's long power; Pairing, Check.
-/
import Derived.Test.YtpnpiblphnpfiaaGreatDoorTI
import Derived.Test.YtpnpiblphnpfiaaGreatDoorXF
import Derived.Test.YtpnpiblphnpfiaaGreatDoorX5
namespace Go.Proofs.YtpnpiblphnpfiaaGreatDoor
open Go.RowKit
set_option maxRecDepth 100000
set_option maxHeartbeats 1000000
attribute [local simp] a8 bt aI aC aR a6 aQ aM aW PLl cH cJ N1l cI cL cM bq bv a7 br bh J1.bG J2.bG Q6.cR Q6.dZ
theorem rTJ {Q P : Prop} (k : Q) (h : Q → P := by intro k; (refine LY.run ?_); (repeat (first | refine bH rfl rfl rfl ?_ | refine bd rfl rfl rfl ?_ | ((refine uk rfl rfl ?_ rfl rfl ?_); (· simp)) | ((refine pF hGF rfl rfl rfl ?_ ?_ (ak _) rfl ?_); (· simp); (· simp)))); (first | refine bY ?_ | refine LY.mk ?_); exact k) : P := h k
theorem pTJ {Q P : Prop} (k : Q) (h : Q → P := by intro k; (refine xp ?_); (refine rTJ ?_); exact k) : P := h k

theorem ent133 : ae Tryz.prog 133 := fun _ _ => by kernel_rfl
theorem ent131 : ae Tryz.prog 131 := fun _ _ => by kernel_rfl
theorem ent67 : ae Tryz.prog 67 := fun _ _ => by kernel_rfl
theorem ent66 : ae Tryz.prog 66 := fun _ _ => by kernel_rfl
theorem ent24 : ae Tryz.prog 24 := fun _ _ => by kernel_rfl
theorem ent18 : ae Tryz.prog 18 := fun _ _ => by kernel_rfl
theorem ent38 : ae Tryz.prog 38 := fun _ _ => by kernel_rfl
namespace Q6
def pwu (u : Nat) (x : W12) : W12 := K12.pw x u
theorem F8 (x : W12) : Pure Tryz.prog Gt 133 [bE x] (bE (pwu UG x)) := by
 intro w hw
 have hGF : BOk Gt (pl w) := gt_low.plain hw
 refine bT (G := Gt) Tryz.func133 rfl rfl (Hp (pl w) []) (aP (pl w) trivial ap) (aw hGF) ?_
 refine xp ?_
 refine lb fun b1 => ?_
 refine la zv49 fun b2 => ?_
 refine aa ?_
 refine pTJ ?_
 refine la zv49 fun b3 => ?_
 refine rTJ ?_
 refine am ?_
 refine xp ?_
 refine lc ent112 (qI) ?_
 refine aa ?_
 refine ao ?_
 refine dM (fun _ => pl w) (fun _ _ => pl w) (fun _ => hGF) (fun _ _ => hGF) (fun _ => rfl) (fun _ _ => rfl) rfl rfl ent158 il (fun x hx => by obtain ⟨k, hk, rfl⟩ := List.mem_map.1 hx; rfl) rfl (fun k => [(1, b1, gW x, 49), (2, b2, (((fe 0 ++ fe 0) ++ ((fe 0 ++ fe 0) ++ (fe 0 ++ fe 0))) ++ ((fe 0 ++ fe 0) ++ ((fe 0 ++ fe 0) ++ (fe 0 ++ fe 0)))).map U64, 49), (3, b3, gW (pwD x k), 49)]) (fun _ _ _ => False) ⟨rfl, rfl, by rw [show pwD x 0 = x from K12.pw_one x]; rfl, trivial⟩ (fun _ _ _ _ => trivial) ?_ ?_ (fun _ _ _ _ _ h => h.elim)
 ·intro k v hx R hR
  obtain ⟨hk, rfl⟩ := nh hx
  refine au (E := EE []) ?_
  refine rTJ ?_
  refine ⟨rfl, _, rfl, ?_⟩
  refine ao ?_
  refine pTJ ?_
  refine lc ent82 (gJ _) ?_
  refine ai 3 (hR (pl w) rfl hGF).2.1 rfl rfl rfl Tryz.sizeOf49 (by simp) (by simp) (ak _) rfl ?_
  refine aa ?_
  refine pTJ ?_
  refine bF rfl (fun hc => ?_) (fun hc => ?_)
  ·have hd : DGb k = true := by simpa using hc
   refine au (E := EE []) ?_
   refine rTJ ?_
   refine lc ent35 (qS _ _) ?_
   refine ai 3 (hR (pl w) rfl hGF).2.1 rfl rfl rfl Tryz.sizeOf49 (by simp) (by simp) (ak _) rfl ?_
   refine aa ?_
   repeat (first | refine aL ?_ | refine ce ?_)
   exact ⟨_, rfl, ⟨rfl, rfl, by first | (rw [← vh x hk hd]; rfl) | (rw [← wc x hk hd]; rfl), trivial⟩⟩
  ·have hd : DGb k = false := by simpa using hc
   refine aB ?_
   repeat (first | refine aL ?_ | refine ce ?_)
   exact ⟨_, rfl, ⟨rfl, rfl, by first | (rw [← vh x hk hd]; rfl) | (rw [← wc x hk hd]; rfl), trivial⟩⟩
 ·intro D hD
  rw [gK]
  refine pTJ ?_
  refine ai 2 hD rfl rfl rfl Tryz.sizeOf49 (by simp) (by simp) (ak _) rfl ?_
  refine aa ?_
  refine rt ?_
  exact c8 (.inl rfl) ap (av 2 rfl rfl rfl Tryz.isAgg49 Tryz.sizeOf49 (by simp) (fun w hw => ⟨by rw [pwu, ← uX], ah hw⟩))
abbrev HF (f : W12 → W12) : Prop := ∀ x, Pure Tryz.prog Gt 133 [bE x] (bE (f x))
def agI (m : Nat) : Ag Unit where
 of := fun v => match v with
  | .inr (.inr (.inl (.int .i64 (.ofNat n)))) => bif Nat.beq n m then some () else none
  | _ => none
 dn := fun _ => I (m : Int)
 ok := fun v x r h => by
  split at h
  ·rename_i n
   obtain ⟨h1, h⟩ := df h
   show Value.int .i64 (Int.ofNat n) = I (m : Int)
   rw [Nat.eq_of_beq_eq_true h1]; rfl
  ·cases h
theorem C7 (x : W12) : Pure Tryz.prog Gt 132 [bE x, I 1] (bE (bX x)) := sY x 1
theorem CI (x : W12) : Pure Tryz.prog Gt 132 [bE x, I 2] (bE (bX (bX x))) := sY x 2
theorem wfr {f : Nat} {g : W12 → W12} (m : Nat) (en : ae Tryz.prog f) (h : ∀ a, Pure Tryz.prog Gt f [bE a, I (m : Int)] (bE (g a))) : Snd Tryz.prog Gt f (c2 q12.ag (agI m) q12.rd (fun a _ => g a)) := dB q12.ag (agI m) q12.rd en (fun a _ => a9 (l2 (V12 _).symm rfl) (V12 _).symm (h a))
def If {f : W12 → W12} (hf : HF f) : Tb Tryz.prog Gt := TO235.add (cB (g := f) ent133 hf)
def IC {f : W12 → W12} (hf : HF f) : Tb Tryz.prog Gt := (If hf).add (wfr (g := bX) 1 ent132 C7)
def AB {f : W12 → W12} (hf : HF f) : Tb Tryz.prog Gt := (IC hf).add (wfr (g := fun x => bX (bX x)) 2 ent132 CI)
theorem EH {α β : Type} (p : α × β) : (p.1, p.2) = p := by cases p; rfl
def pva (f : W12 → W12) (x : W12) : W12 := K12.mul (f x) x
def pez (x : W12) : W12 := fi2 (fi1 x)
def ph1 (f : W12 → W12) (x : W12) : W12 := K12.mul (bX x) (bB (f x))
def ph2 (f : W12 → W12) (x : W12) : W12 := K12.mul (K12.mul (f (f x)) (bX (bX x))) (bB x)
def phd (f : W12 → W12) (x : W12) : W12 := K12.mul (K12.mul (ph2 f (ph1 f (pva f (pva f x)))) (K12.mul x x)) x
theorem Fo {p6 : Nat} (h6 : ∀ x, bB x = K12.pw x p6) (x : W12) (u : Nat) : bB (K12.pw x u) = K12.pw (bB x) u := by rw [h6, h6, ← K12.pw_mul, ← K12.pw_mul, Nat.mul_comm]
theorem l8 (x : W12) (u : Nat) : bB (K12.pw x u) = K12.pw (bB x) u := Fo (fun x => (qs x).symm) x u
theorem wO (u : Nat) (x : W12) : fi3 u x = bB (pva (pwu u) x) := by rw [fi3, tnd, ← gx, pva, pwu]
theorem Cg (u : Nat) (x : W12) : pva (pwu u) (bB x) = bB (pva (pwu u) x) := by rw [pva, pva, pwu, pwu, ← l8, ← gx]
theorem HP (u : Nat) (x : W12) : pva (pwu u) (pva (pwu u) x) = fi3 u (fi3 u x) := by rw [wO, wO, Cg, kd]
theorem Ca (u : Nat) (x : W12) : ph1 (pwu u) x = fi4 u x := by rw [ph1, fi4, tnd, pwu]; exact K12.mul_comm _ _
theorem Ev (u : Nat) (x : W12) : ph2 (pwu u) x = fi5 u x := by rw [ph2, fi5, tnd, tnd, ← l8, kd, pwu, pwu]
theorem Fb (u : Nat) (x : W12) : phd (pwu u) x = fi6 u x := by
 rw [phd, HP, Ca, Ev]
 show K12.mul (K12.mul _ (K12.mul _ _)) _ = K12.mul (K12.mul (K12.mul _ _) _) _
 rw [← K12.mul_assoc]
theorem Es (u : Nat) (x : W12) : g8 u x = phd (pwu u) (pez x) := by rw [g8, Fb, pez]
def eM (f : W12 → W12) (x : W12) : W12 :=
 let t0 := f x
 let t1 := K12.mul (((t0.1.1.1, t0.1.1.2), (t0.1.2.1.1, t0.1.2.1.2), (t0.1.2.2.1, t0.1.2.2.2)), ((t0.2.1.1, t0.2.1.2), (t0.2.2.1.1, t0.2.2.1.2), (t0.2.2.2.1, t0.2.2.2.2))) x
 t1
theorem vU (f : W12 → W12) (x : W12) : eM f x = pva f x := by
 unfold eM
 simp only [EH]
 rfl
theorem H2 {f : W12 → W12} (hf : HF f) (x : W12) : Pure Tryz.prog Gt 131 [bE x] (bE (eM f x)) := (a9 (l1 (V12 _)) (V12 _) (pE (AB hf) Tryz.func131 [.inl [x.1.1.1, x.1.1.2, x.1.2.1.1, x.1.2.1.2, x.1.2.2.1, x.1.2.2.2, x.2.1.1, x.2.1.2, x.2.2.1.1, x.2.2.1.2, x.2.2.2.1, x.2.2.2.2]] (.inl (.inl [(eM f x).1.1.1, (eM f x).1.1.2, (eM f x).1.2.1.1, (eM f x).1.2.1.2, (eM f x).1.2.2.1, (eM f x).1.2.2.2, (eM f x).2.1.1, (eM f x).2.1.2, (eM f x).2.2.1.1, (eM f x).2.2.1.2, (eM f x).2.2.2.1, (eM f x).2.2.2.2])) (let t0 := f x; let t1 := K12.mul (((t0.1.1.1, t0.1.1.2), (t0.1.2.1.1, t0.1.2.1.2), (t0.1.2.2.1, t0.1.2.2.2)), ((t0.2.1.1, t0.2.1.2), (t0.2.2.1.1, t0.2.2.1.2), (t0.2.2.2.1, t0.2.2.2.2))) x; (.inl (.inl [t1.1.1.1, t1.1.1.2, t1.1.2.1.1, t1.1.2.1.2, t1.1.2.2.1, t1.1.2.2.2, t1.2.1.1, t1.2.1.2, t1.2.2.1.1, t1.2.2.1.2, t1.2.2.2.1, t1.2.2.2.2]), [])) [] (by kernel_rfl) aG (by kernel_rfl)))
theorem ppva {f : W12 → W12} (hf : HF f) (x : W12) : Pure Tryz.prog Gt 131 [bE x] (bE (pva f x)) := by rw [← vU]; exact H2 hf x
def Bd {f : W12 → W12} (hf : HF f) : Tb Tryz.prog Gt := (AB hf).add (cB (g := pva f) ent131 (ppva hf))
def eN (x : W12) : W12 :=
 let t0 := bB x
 let t1 := ez x
 let t2 := K12.mul (((t0.1.1.1, t0.1.1.2), (t0.1.2.1.1, t0.1.2.1.2), (t0.1.2.2.1, t0.1.2.2.2)), ((t0.2.1.1, t0.2.1.2), (t0.2.2.1.1, t0.2.2.1.2), (t0.2.2.2.1, t0.2.2.2.2))) (((t1.1.1.1, t1.1.1.2), (t1.1.2.1.1, t1.1.2.1.2), (t1.1.2.2.1, t1.1.2.2.2)), ((t1.2.1.1, t1.2.1.2), (t1.2.2.1.1, t1.2.2.1.2), (t1.2.2.2.1, t1.2.2.2.2)))
 let t3 := bX (bX (((t2.1.1.1, t2.1.1.2), (t2.1.2.1.1, t2.1.2.1.2), (t2.1.2.2.1, t2.1.2.2.2)), ((t2.2.1.1, t2.2.1.2), (t2.2.2.1.1, t2.2.2.1.2), (t2.2.2.2.1, t2.2.2.2.2))))
 let t4 := K12.mul (((t3.1.1.1, t3.1.1.2), (t3.1.2.1.1, t3.1.2.1.2), (t3.1.2.2.1, t3.1.2.2.2)), ((t3.2.1.1, t3.2.1.2), (t3.2.2.1.1, t3.2.2.1.2), (t3.2.2.2.1, t3.2.2.2.2))) (((t2.1.1.1, t2.1.1.2), (t2.1.2.1.1, t2.1.2.1.2), (t2.1.2.2.1, t2.1.2.2.2)), ((t2.2.1.1, t2.2.1.2), (t2.2.2.1.1, t2.2.2.1.2), (t2.2.2.2.1, t2.2.2.2.2)))
 t4
theorem vV (x : W12) : eN x = pez x := by
 unfold eN
 simp only [EH]
 rfl
theorem IH {f : W12 → W12} (hf : HF f) (x : W12) : Pure Tryz.prog Gt 67 [bE x] (bE (eN x)) := (a9 (l1 (V12 _)) (V12 _) (pE (Bd hf) Tryz.func67 [.inl [x.1.1.1, x.1.1.2, x.1.2.1.1, x.1.2.1.2, x.1.2.2.1, x.1.2.2.2, x.2.1.1, x.2.1.2, x.2.2.1.1, x.2.2.1.2, x.2.2.2.1, x.2.2.2.2]] (.inl (.inl [(eN x).1.1.1, (eN x).1.1.2, (eN x).1.2.1.1, (eN x).1.2.1.2, (eN x).1.2.2.1, (eN x).1.2.2.2, (eN x).2.1.1, (eN x).2.1.2, (eN x).2.2.1.1, (eN x).2.2.1.2, (eN x).2.2.2.1, (eN x).2.2.2.2])) (let t0 := bB x; let t1 := ez x; let t2 := K12.mul (((t0.1.1.1, t0.1.1.2), (t0.1.2.1.1, t0.1.2.1.2), (t0.1.2.2.1, t0.1.2.2.2)), ((t0.2.1.1, t0.2.1.2), (t0.2.2.1.1, t0.2.2.1.2), (t0.2.2.2.1, t0.2.2.2.2))) (((t1.1.1.1, t1.1.1.2), (t1.1.2.1.1, t1.1.2.1.2), (t1.1.2.2.1, t1.1.2.2.2)), ((t1.2.1.1, t1.2.1.2), (t1.2.2.1.1, t1.2.2.1.2), (t1.2.2.2.1, t1.2.2.2.2))); let t3 := bX (bX (((t2.1.1.1, t2.1.1.2), (t2.1.2.1.1, t2.1.2.1.2), (t2.1.2.2.1, t2.1.2.2.2)), ((t2.2.1.1, t2.2.1.2), (t2.2.2.1.1, t2.2.2.1.2), (t2.2.2.2.1, t2.2.2.2.2)))); let t4 := K12.mul (((t3.1.1.1, t3.1.1.2), (t3.1.2.1.1, t3.1.2.1.2), (t3.1.2.2.1, t3.1.2.2.2)), ((t3.2.1.1, t3.2.1.2), (t3.2.2.1.1, t3.2.2.1.2), (t3.2.2.2.1, t3.2.2.2.2))) (((t2.1.1.1, t2.1.1.2), (t2.1.2.1.1, t2.1.2.1.2), (t2.1.2.2.1, t2.1.2.2.2)), ((t2.2.1.1, t2.2.1.2), (t2.2.2.1.1, t2.2.2.1.2), (t2.2.2.2.1, t2.2.2.2.2))); (.inl (.inl [t4.1.1.1, t4.1.1.2, t4.1.2.1.1, t4.1.2.1.2, t4.1.2.2.1, t4.1.2.2.2, t4.2.1.1, t4.2.1.2, t4.2.2.1.1, t4.2.2.1.2, t4.2.2.2.1, t4.2.2.2.2]), [])) [] (by kernel_rfl) aG (by kernel_rfl)))
theorem ppez {f : W12 → W12} (hf : HF f) (x : W12) : Pure Tryz.prog Gt 67 [bE x] (bE (pez x)) := by rw [← vV]; exact IH hf x
def BH {f : W12 → W12} (hf : HF f) : Tb Tryz.prog Gt := (Bd hf).add (cB (g := pez) ent67 (ppez hf))
def eI (f : W12 → W12) (x : W12) : W12 :=
 let t0 := pva f x
 let t1 := pva f (((t0.1.1.1, t0.1.1.2), (t0.1.2.1.1, t0.1.2.1.2), (t0.1.2.2.1, t0.1.2.2.2)), ((t0.2.1.1, t0.2.1.2), (t0.2.2.1.1, t0.2.2.1.2), (t0.2.2.2.1, t0.2.2.2.2)))
 let t2 := bX (((t1.1.1.1, t1.1.1.2), (t1.1.2.1.1, t1.1.2.1.2), (t1.1.2.2.1, t1.1.2.2.2)), ((t1.2.1.1, t1.2.1.2), (t1.2.2.1.1, t1.2.2.1.2), (t1.2.2.2.1, t1.2.2.2.2)))
 let t3 := f (((t1.1.1.1, t1.1.1.2), (t1.1.2.1.1, t1.1.2.1.2), (t1.1.2.2.1, t1.1.2.2.2)), ((t1.2.1.1, t1.2.1.2), (t1.2.2.1.1, t1.2.2.1.2), (t1.2.2.2.1, t1.2.2.2.2)))
 let t4 := bB (((t3.1.1.1, t3.1.1.2), (t3.1.2.1.1, t3.1.2.1.2), (t3.1.2.2.1, t3.1.2.2.2)), ((t3.2.1.1, t3.2.1.2), (t3.2.2.1.1, t3.2.2.1.2), (t3.2.2.2.1, t3.2.2.2.2)))
 let t5 := K12.mul (((t2.1.1.1, t2.1.1.2), (t2.1.2.1.1, t2.1.2.1.2), (t2.1.2.2.1, t2.1.2.2.2)), ((t2.2.1.1, t2.2.1.2), (t2.2.2.1.1, t2.2.2.1.2), (t2.2.2.2.1, t2.2.2.2.2))) (((t4.1.1.1, t4.1.1.2), (t4.1.2.1.1, t4.1.2.1.2), (t4.1.2.2.1, t4.1.2.2.2)), ((t4.2.1.1, t4.2.1.2), (t4.2.2.1.1, t4.2.2.1.2), (t4.2.2.2.1, t4.2.2.2.2)))
 let t6 := f (((t5.1.1.1, t5.1.1.2), (t5.1.2.1.1, t5.1.2.1.2), (t5.1.2.2.1, t5.1.2.2.2)), ((t5.2.1.1, t5.2.1.2), (t5.2.2.1.1, t5.2.2.1.2), (t5.2.2.2.1, t5.2.2.2.2)))
 let t7 := f (((t6.1.1.1, t6.1.1.2), (t6.1.2.1.1, t6.1.2.1.2), (t6.1.2.2.1, t6.1.2.2.2)), ((t6.2.1.1, t6.2.1.2), (t6.2.2.1.1, t6.2.2.1.2), (t6.2.2.2.1, t6.2.2.2.2)))
 let t8 := bX (bX (((t5.1.1.1, t5.1.1.2), (t5.1.2.1.1, t5.1.2.1.2), (t5.1.2.2.1, t5.1.2.2.2)), ((t5.2.1.1, t5.2.1.2), (t5.2.2.1.1, t5.2.2.1.2), (t5.2.2.2.1, t5.2.2.2.2))))
 let t9 := K12.mul (((t7.1.1.1, t7.1.1.2), (t7.1.2.1.1, t7.1.2.1.2), (t7.1.2.2.1, t7.1.2.2.2)), ((t7.2.1.1, t7.2.1.2), (t7.2.2.1.1, t7.2.2.1.2), (t7.2.2.2.1, t7.2.2.2.2))) (((t8.1.1.1, t8.1.1.2), (t8.1.2.1.1, t8.1.2.1.2), (t8.1.2.2.1, t8.1.2.2.2)), ((t8.2.1.1, t8.2.1.2), (t8.2.2.1.1, t8.2.2.1.2), (t8.2.2.2.1, t8.2.2.2.2)))
 let t10 := bB (((t5.1.1.1, t5.1.1.2), (t5.1.2.1.1, t5.1.2.1.2), (t5.1.2.2.1, t5.1.2.2.2)), ((t5.2.1.1, t5.2.1.2), (t5.2.2.1.1, t5.2.2.1.2), (t5.2.2.2.1, t5.2.2.2.2)))
 let t11 := K12.mul (((t9.1.1.1, t9.1.1.2), (t9.1.2.1.1, t9.1.2.1.2), (t9.1.2.2.1, t9.1.2.2.2)), ((t9.2.1.1, t9.2.1.2), (t9.2.2.1.1, t9.2.2.1.2), (t9.2.2.2.1, t9.2.2.2.2))) (((t10.1.1.1, t10.1.1.2), (t10.1.2.1.1, t10.1.2.1.2), (t10.1.2.2.1, t10.1.2.2.2)), ((t10.2.1.1, t10.2.1.2), (t10.2.2.1.1, t10.2.2.1.2), (t10.2.2.2.1, t10.2.2.2.2)))
 let t12 := K12.mul x x
 let t13 := K12.mul (((t11.1.1.1, t11.1.1.2), (t11.1.2.1.1, t11.1.2.1.2), (t11.1.2.2.1, t11.1.2.2.2)), ((t11.2.1.1, t11.2.1.2), (t11.2.2.1.1, t11.2.2.1.2), (t11.2.2.2.1, t11.2.2.2.2))) (((t12.1.1.1, t12.1.1.2), (t12.1.2.1.1, t12.1.2.1.2), (t12.1.2.2.1, t12.1.2.2.2)), ((t12.2.1.1, t12.2.1.2), (t12.2.2.1.1, t12.2.2.1.2), (t12.2.2.2.1, t12.2.2.2.2)))
 let t14 := K12.mul (((t13.1.1.1, t13.1.1.2), (t13.1.2.1.1, t13.1.2.1.2), (t13.1.2.2.1, t13.1.2.2.2)), ((t13.2.1.1, t13.2.1.2), (t13.2.2.1.1, t13.2.2.1.2), (t13.2.2.2.1, t13.2.2.2.2))) x
 t14
theorem tX (f : W12 → W12) (x : W12) : eI f x = phd f x := by
 unfold eI
 simp only [EH]
 rfl
theorem GN {f : W12 → W12} (hf : HF f) (x : W12) : Pure Tryz.prog Gt 66 [bE x] (bE (eI f x)) := (a9 (l1 (V12 _)) (V12 _) (pE (BH hf) Tryz.func66 [.inl [x.1.1.1, x.1.1.2, x.1.2.1.1, x.1.2.1.2, x.1.2.2.1, x.1.2.2.2, x.2.1.1, x.2.1.2, x.2.2.1.1, x.2.2.1.2, x.2.2.2.1, x.2.2.2.2]] (.inl (.inl [(eI f x).1.1.1, (eI f x).1.1.2, (eI f x).1.2.1.1, (eI f x).1.2.1.2, (eI f x).1.2.2.1, (eI f x).1.2.2.2, (eI f x).2.1.1, (eI f x).2.1.2, (eI f x).2.2.1.1, (eI f x).2.2.1.2, (eI f x).2.2.2.1, (eI f x).2.2.2.2])) (let t0 := pva f x; let t1 := pva f (((t0.1.1.1, t0.1.1.2), (t0.1.2.1.1, t0.1.2.1.2), (t0.1.2.2.1, t0.1.2.2.2)), ((t0.2.1.1, t0.2.1.2), (t0.2.2.1.1, t0.2.2.1.2), (t0.2.2.2.1, t0.2.2.2.2))); let t2 := bX (((t1.1.1.1, t1.1.1.2), (t1.1.2.1.1, t1.1.2.1.2), (t1.1.2.2.1, t1.1.2.2.2)), ((t1.2.1.1, t1.2.1.2), (t1.2.2.1.1, t1.2.2.1.2), (t1.2.2.2.1, t1.2.2.2.2))); let t3 := f (((t1.1.1.1, t1.1.1.2), (t1.1.2.1.1, t1.1.2.1.2), (t1.1.2.2.1, t1.1.2.2.2)), ((t1.2.1.1, t1.2.1.2), (t1.2.2.1.1, t1.2.2.1.2), (t1.2.2.2.1, t1.2.2.2.2))); let t4 := bB (((t3.1.1.1, t3.1.1.2), (t3.1.2.1.1, t3.1.2.1.2), (t3.1.2.2.1, t3.1.2.2.2)), ((t3.2.1.1, t3.2.1.2), (t3.2.2.1.1, t3.2.2.1.2), (t3.2.2.2.1, t3.2.2.2.2))); let t5 := K12.mul (((t2.1.1.1, t2.1.1.2), (t2.1.2.1.1, t2.1.2.1.2), (t2.1.2.2.1, t2.1.2.2.2)), ((t2.2.1.1, t2.2.1.2), (t2.2.2.1.1, t2.2.2.1.2), (t2.2.2.2.1, t2.2.2.2.2))) (((t4.1.1.1, t4.1.1.2), (t4.1.2.1.1, t4.1.2.1.2), (t4.1.2.2.1, t4.1.2.2.2)), ((t4.2.1.1, t4.2.1.2), (t4.2.2.1.1, t4.2.2.1.2), (t4.2.2.2.1, t4.2.2.2.2))); let t6 := f (((t5.1.1.1, t5.1.1.2), (t5.1.2.1.1, t5.1.2.1.2), (t5.1.2.2.1, t5.1.2.2.2)), ((t5.2.1.1, t5.2.1.2), (t5.2.2.1.1, t5.2.2.1.2), (t5.2.2.2.1, t5.2.2.2.2))); let t7 := f (((t6.1.1.1, t6.1.1.2), (t6.1.2.1.1, t6.1.2.1.2), (t6.1.2.2.1, t6.1.2.2.2)), ((t6.2.1.1, t6.2.1.2), (t6.2.2.1.1, t6.2.2.1.2), (t6.2.2.2.1, t6.2.2.2.2))); let t8 := bX (bX (((t5.1.1.1, t5.1.1.2), (t5.1.2.1.1, t5.1.2.1.2), (t5.1.2.2.1, t5.1.2.2.2)), ((t5.2.1.1, t5.2.1.2), (t5.2.2.1.1, t5.2.2.1.2), (t5.2.2.2.1, t5.2.2.2.2)))); let t9 := K12.mul (((t7.1.1.1, t7.1.1.2), (t7.1.2.1.1, t7.1.2.1.2), (t7.1.2.2.1, t7.1.2.2.2)), ((t7.2.1.1, t7.2.1.2), (t7.2.2.1.1, t7.2.2.1.2), (t7.2.2.2.1, t7.2.2.2.2))) (((t8.1.1.1, t8.1.1.2), (t8.1.2.1.1, t8.1.2.1.2), (t8.1.2.2.1, t8.1.2.2.2)), ((t8.2.1.1, t8.2.1.2), (t8.2.2.1.1, t8.2.2.1.2), (t8.2.2.2.1, t8.2.2.2.2))); let t10 := bB (((t5.1.1.1, t5.1.1.2), (t5.1.2.1.1, t5.1.2.1.2), (t5.1.2.2.1, t5.1.2.2.2)), ((t5.2.1.1, t5.2.1.2), (t5.2.2.1.1, t5.2.2.1.2), (t5.2.2.2.1, t5.2.2.2.2))); let t11 := K12.mul (((t9.1.1.1, t9.1.1.2), (t9.1.2.1.1, t9.1.2.1.2), (t9.1.2.2.1, t9.1.2.2.2)), ((t9.2.1.1, t9.2.1.2), (t9.2.2.1.1, t9.2.2.1.2), (t9.2.2.2.1, t9.2.2.2.2))) (((t10.1.1.1, t10.1.1.2), (t10.1.2.1.1, t10.1.2.1.2), (t10.1.2.2.1, t10.1.2.2.2)), ((t10.2.1.1, t10.2.1.2), (t10.2.2.1.1, t10.2.2.1.2), (t10.2.2.2.1, t10.2.2.2.2))); let t12 := K12.mul x x; let t13 := K12.mul (((t11.1.1.1, t11.1.1.2), (t11.1.2.1.1, t11.1.2.1.2), (t11.1.2.2.1, t11.1.2.2.2)), ((t11.2.1.1, t11.2.1.2), (t11.2.2.1.1, t11.2.2.1.2), (t11.2.2.2.1, t11.2.2.2.2))) (((t12.1.1.1, t12.1.1.2), (t12.1.2.1.1, t12.1.2.1.2), (t12.1.2.2.1, t12.1.2.2.2)), ((t12.2.1.1, t12.2.1.2), (t12.2.2.1.1, t12.2.2.1.2), (t12.2.2.2.1, t12.2.2.2.2))); let t14 := K12.mul (((t13.1.1.1, t13.1.1.2), (t13.1.2.1.1, t13.1.2.1.2), (t13.1.2.2.1, t13.1.2.2.2)), ((t13.2.1.1, t13.2.1.2), (t13.2.2.1.1, t13.2.2.1.2), (t13.2.2.2.1, t13.2.2.2.2))) x; (.inl (.inl [t14.1.1.1, t14.1.1.2, t14.1.2.1.1, t14.1.2.1.2, t14.1.2.2.1, t14.1.2.2.2, t14.2.1.1, t14.2.1.2, t14.2.2.1.1, t14.2.2.1.2, t14.2.2.2.1, t14.2.2.2.2]), [])) [] (by kernel_rfl) aG (by kernel_rfl)))
theorem pphd {f : W12 → W12} (hf : HF f) (x : W12) : Pure Tryz.prog Gt 66 [bE x] (bE (phd f x)) := by rw [← tX]; exact GN hf x
def GE {f : W12 → W12} (hf : HF f) : Tb Tryz.prog Gt := (BH hf).add (cB (g := phd f) ent66 (pphd hf))
theorem zY {f : W12 → W12} (hf : HF f) (x : W12) : Pure Tryz.prog Gt 24 [bE x] (bE (phd f (pez x))) := (a9 (l1 (V12 _)) (V12 _) (pE (GE hf) Tryz.func24 [.inl [x.1.1.1, x.1.1.2, x.1.2.1.1, x.1.2.1.2, x.1.2.2.1, x.1.2.2.2, x.2.1.1, x.2.1.2, x.2.2.1.1, x.2.2.1.2, x.2.2.2.1, x.2.2.2.2]] (.inl (.inl [(phd f (pez x)).1.1.1, (phd f (pez x)).1.1.2, (phd f (pez x)).1.2.1.1, (phd f (pez x)).1.2.1.2, (phd f (pez x)).1.2.2.1, (phd f (pez x)).1.2.2.2, (phd f (pez x)).2.1.1, (phd f (pez x)).2.1.2, (phd f (pez x)).2.2.1.1, (phd f (pez x)).2.2.1.2, (phd f (pez x)).2.2.2.1, (phd f (pez x)).2.2.2.2])) (let t0 := pez x; let t1 := phd f (((t0.1.1.1, t0.1.1.2), (t0.1.2.1.1, t0.1.2.1.2), (t0.1.2.2.1, t0.1.2.2.2)), ((t0.2.1.1, t0.2.1.2), (t0.2.2.1.1, t0.2.2.1.2), (t0.2.2.2.1, t0.2.2.2.2))); (.inl (.inl [t1.1.1.1, t1.1.1.2, t1.1.2.1.1, t1.1.2.1.2, t1.1.2.2.1, t1.1.2.2.2, t1.2.1.1, t1.2.1.2, t1.2.2.1.1, t1.2.2.1.2, t1.2.2.2.1, t1.2.2.2.2]), [])) [] (by kernel_rfl) aG (by kernel_rfl)))
theorem wp (x : W12) : Pure Tryz.prog Gt 24 [bE x] (bE (g8 UG x)) := by rw [Es]; exact zY F8 x
end Q6
end Go.Proofs.YtpnpiblphnpfiaaGreatDoor
