/-
 The program's long power; Pairing, Check.
-/
import Derived.Test.YtpnpiblphnpfiaaGreatDoorTI
import Derived.Test.YtpnpiblphnpfiaaGreatDoorXF
import Derived.Test.YtpnpiblphnpfiaaGreatDoorX5
namespace Go.Proofs.YtpnpiblphnpfiaaGreatDoor
open Go.RowKit
set_option maxRecDepth 100000
set_option maxHeartbeats 1000000
attribute [local simp] aY bj aF aA aL aW aM aK aO PLl cq cn N1l cm cp ck bd bk aX bg ba J1.br J2.br Q6.cg Q6.c8
theorem rTJ {Q P : Prop} (k : Q) (h : Q → P := by intro k; (refine LY.run ?_); (repeat (first | refine bC rfl rfl rfl ?_ | refine a7 rfl rfl rfl ?_ | ((refine qm rfl rfl ?_ rfl rfl ?_); (· simp)) | ((refine nC hGF rfl rfl rfl ?_ ?_ (ak _) rfl ?_); (· simp); (· simp)))); (first | refine bO ?_ | refine LY.mk ?_); exact k) : P := h k
theorem pTJ {Q P : Prop} (k : Q) (h : Q → P := by intro k; (refine xp ?_); (refine rTJ ?_); exact k) : P := h k

theorem ent133 : ae Tryz.prog 133 := fun _ _ => by kernel_rfl
theorem ent131 : ae Tryz.prog 131 := fun _ _ => by kernel_rfl
theorem ent67 : ae Tryz.prog 67 := fun _ _ => by kernel_rfl
theorem ent66 : ae Tryz.prog 66 := fun _ _ => by kernel_rfl
theorem ent24 : ae Tryz.prog 24 := fun _ _ => by kernel_rfl
theorem ent18 : ae Tryz.prog 18 := fun _ _ => by kernel_rfl
theorem ent38 : ae Tryz.prog 38 := fun _ _ => by kernel_rfl
namespace Q6
def pwu (u : Nat) (x : W12) : W12 := K12.pw x u
theorem Gp (x : W12) : Pure Tryz.prog Gt 133 [bt x] (bt (pwu UG x)) := by
 intro w hw
 have hGF : BOk Gt (pl w) := gt_low.plain hw
 refine ca (G := Gt) Tryz.func133 rfl rfl (Hp (pl w) []) (a5 (pl w) trivial aq) (ay hGF) ?_
 refine xp ?_
 refine lb fun b1 => ?_
 refine la zv49 fun b2 => ?_
 refine aa ?_
 refine pTJ ?_
 refine la zv49 fun b3 => ?_
 refine rTJ ?_
 refine ao ?_
 refine xp ?_
 refine lc ent112 (qu) ?_
 refine aa ?_
 refine ap ?_
 refine dV (fun _ => pl w) (fun _ _ => pl w) (fun _ => hGF) (fun _ _ => hGF) (fun _ => rfl) (fun _ _ => rfl) rfl rfl ent158 iz (fun x hx => by obtain ⟨k, hk, rfl⟩ := List.mem_map.1 hx; rfl) rfl (fun k => [(1, b1, gZ x, 49), (2, b2, (((fe 0 ++ fe 0) ++ ((fe 0 ++ fe 0) ++ (fe 0 ++ fe 0))) ++ ((fe 0 ++ fe 0) ++ ((fe 0 ++ fe 0) ++ (fe 0 ++ fe 0)))).map U64, 49), (3, b3, gZ (pwD x k), 49)]) (fun _ _ _ => False) ⟨rfl, rfl, by rw [show pwD x 0 = x from K12.pw_one x]; rfl, trivial⟩ (fun _ _ _ _ => trivial) ?_ ?_ (fun _ _ _ _ _ h => h.elim)
 ·intro k v hx R hR
  obtain ⟨hk, rfl⟩ := mU hx
  refine aw (E := EE []) ?_
  refine rTJ ?_
  refine ⟨rfl, _, rfl, ?_⟩
  refine ap ?_
  refine pTJ ?_
  refine lc ent82 (fB _) ?_
  refine ai 3 (hR (pl w) rfl hGF).2.1 rfl rfl rfl Tryz.sizeOf49 (by simp) (by simp) (ak _) rfl ?_
  refine aa ?_
  refine pTJ ?_
  refine bE rfl (fun hc => ?_) (fun hc => ?_)
  ·have hd : DGb k = true := by simpa using hc
   refine aw (E := EE []) ?_
   refine rTJ ?_
   refine lc ent35 (lM _ _) ?_
   refine ai 3 (hR (pl w) rfl hGF).2.1 rfl rfl rfl Tryz.sizeOf49 (by simp) (by simp) (ak _) rfl ?_
   refine aa ?_
   repeat (first | refine aR ?_ | refine ce ?_)
   exact ⟨_, rfl, ⟨rfl, rfl, by first | (rw [← xP x hk hd]; rfl) | (rw [← uO x hk hd]; rfl), trivial⟩⟩
  ·have hd : DGb k = false := by simpa using hc
   refine aD ?_
   repeat (first | refine aR ?_ | refine ce ?_)
   exact ⟨_, rfl, ⟨rfl, rfl, by first | (rw [← xP x hk hd]; rfl) | (rw [← uO x hk hd]; rfl), trivial⟩⟩
 ·intro D hD
  rw [gO]
  refine pTJ ?_
  refine ai 2 hD rfl rfl rfl Tryz.sizeOf49 (by simp) (by simp) (ak _) rfl ?_
  refine aa ?_
  refine rt ?_
  exact df (.inl rfl) aq (av 2 rfl rfl rfl Tryz.isAgg49 Tryz.sizeOf49 (by simp) (fun w hw => ⟨by rw [pwu, ← vv], ah hw⟩))
abbrev HF (f : W12 → W12) : Prop := ∀ x, Pure Tryz.prog Gt 133 [bt x] (bt (f x))
def agI (m : Nat) : Ag Unit where
 of := fun v => match v with
  | .inr (.inr (.inl (.int .i64 (.ofNat n)))) => bif Nat.beq n m then some () else none
  | _ => none
 dn := fun _ => I (m : Int)
 ok := fun v x r h => by
  split at h
  ·rename_i n
   obtain ⟨h1, h⟩ := dg h
   show Value.int .i64 (Int.ofNat n) = I (m : Int)
   rw [Nat.eq_of_beq_eq_true h1]; rfl
  ·cases h
theorem Dg (x : W12) : Pure Tryz.prog Gt 132 [bt x, I 1] (bt (bT x)) := s9 x 1
theorem ER (x : W12) : Pure Tryz.prog Gt 132 [bt x, I 2] (bt (bT (bT x))) := s9 x 2
theorem wfr {f : Nat} {g : W12 → W12} (m : Nat) (en : ae Tryz.prog f) (h : ∀ a, Pure Tryz.prog Gt f [bt a, I (m : Int)] (bt (g a))) : Snd Tryz.prog Gt f (c2 q12.ag (agI m) q12.rd (fun a _ => g a)) := dv q12.ag (agI m) q12.rd en (fun a _ => a8 (l2 (V12 _).symm rfl) (V12 _).symm (h a))
def GW {f : W12 → W12} (hf : HF f) : Tb Tryz.prog Gt := TO235.add (cv (g := f) ent133 hf)
def HV {f : W12 → W12} (hf : HF f) : Tb Tryz.prog Gt := (GW hf).add (wfr (g := bT) 1 ent132 Dg)
def A8 {f : W12 → W12} (hf : HF f) : Tb Tryz.prog Gt := (HV hf).add (wfr (g := fun x => bT (bT x)) 2 ent132 ER)
theorem Es {α β : Type} (p : α × β) : (p.1, p.2) = p := by cases p; rfl
def pva (f : W12 → W12) (x : W12) : W12 := K12.mul (f x) x
def pez (x : W12) : W12 := fi2 (fi1 x)
def ph1 (f : W12 → W12) (x : W12) : W12 := K12.mul (bT x) (bw (f x))
def ph2 (f : W12 → W12) (x : W12) : W12 := K12.mul (K12.mul (f (f x)) (bT (bT x))) (bw x)
def phd (f : W12 → W12) (x : W12) : W12 := K12.mul (K12.mul (ph2 f (ph1 f (pva f (pva f x)))) (K12.mul x x)) x
theorem Ch {p6 : Nat} (h6 : ∀ x, bw x = K12.pw x p6) (x : W12) (u : Nat) : bw (K12.pw x u) = K12.pw (bw x) u := by rw [h6, h6, ← K12.pw_mul, ← K12.pw_mul, Nat.mul_comm]
theorem kE (x : W12) (u : Nat) : bw (K12.pw x u) = K12.pw (bw x) u := Ch (fun x => (nJ x).symm) x u
theorem xj (u : Nat) (x : W12) : fi3 u x = bw (pva (pwu u) x) := by rw [fi3, tnd, ← gj, pva, pwu]
theorem E5 (u : Nat) (x : W12) : pva (pwu u) (bw x) = bw (pva (pwu u) x) := by rw [pva, pva, pwu, pwu, ← kE, ← gj]
theorem Jd (u : Nat) (x : W12) : pva (pwu u) (pva (pwu u) x) = fi3 u (fi3 u x) := by rw [xj, xj, E5, jV]
theorem Du (u : Nat) (x : W12) : ph1 (pwu u) x = fi4 u x := by rw [ph1, fi4, tnd, pwu]; exact K12.mul_comm _ _
theorem DU (u : Nat) (x : W12) : ph2 (pwu u) x = fi5 u x := by rw [ph2, fi5, tnd, tnd, ← kE, jV, pwu, pwu]
theorem Cc (u : Nat) (x : W12) : phd (pwu u) x = fi6 u x := by
 rw [phd, Jd, Du, DU]
 show K12.mul (K12.mul _ (K12.mul _ _)) _ = K12.mul (K12.mul (K12.mul _ _) _) _
 rw [← K12.mul_assoc]
theorem DH (u : Nat) (x : W12) : hH u x = phd (pwu u) (pez x) := by rw [hH, Cc, pez]
def eT (f : W12 → W12) (x : W12) : W12 :=
 let t0 := f x
 let t1 := K12.mul (((t0.1.1.1, t0.1.1.2), (t0.1.2.1.1, t0.1.2.1.2), (t0.1.2.2.1, t0.1.2.2.2)), ((t0.2.1.1, t0.2.1.2), (t0.2.2.1.1, t0.2.2.1.2), (t0.2.2.2.1, t0.2.2.2.2))) x
 t1
theorem vV (f : W12 → W12) (x : W12) : eT f x = pva f x := by
 unfold eT
 simp only [Es]
 rfl
theorem Gk {f : W12 → W12} (hf : HF f) (x : W12) : Pure Tryz.prog Gt 131 [bt x] (bt (eT f x)) := (a8 (l1 (V12 _)) (V12 _) (pE (A8 hf) Tryz.func131 [.inl [x.1.1.1, x.1.1.2, x.1.2.1.1, x.1.2.1.2, x.1.2.2.1, x.1.2.2.2, x.2.1.1, x.2.1.2, x.2.2.1.1, x.2.2.1.2, x.2.2.2.1, x.2.2.2.2]] (.inl (.inl [(eT f x).1.1.1, (eT f x).1.1.2, (eT f x).1.2.1.1, (eT f x).1.2.1.2, (eT f x).1.2.2.1, (eT f x).1.2.2.2, (eT f x).2.1.1, (eT f x).2.1.2, (eT f x).2.2.1.1, (eT f x).2.2.1.2, (eT f x).2.2.2.1, (eT f x).2.2.2.2])) (let t0 := f x; let t1 := K12.mul (((t0.1.1.1, t0.1.1.2), (t0.1.2.1.1, t0.1.2.1.2), (t0.1.2.2.1, t0.1.2.2.2)), ((t0.2.1.1, t0.2.1.2), (t0.2.2.1.1, t0.2.2.1.2), (t0.2.2.2.1, t0.2.2.2.2))) x; (.inl (.inl [t1.1.1.1, t1.1.1.2, t1.1.2.1.1, t1.1.2.1.2, t1.1.2.2.1, t1.1.2.2.2, t1.2.1.1, t1.2.1.2, t1.2.2.1.1, t1.2.2.1.2, t1.2.2.2.1, t1.2.2.2.2]), [])) [] (by kernel_rfl) aG (by kernel_rfl)))
theorem ppva {f : W12 → W12} (hf : HF f) (x : W12) : Pure Tryz.prog Gt 131 [bt x] (bt (pva f x)) := by rw [← vV]; exact Gk hf x
def BI {f : W12 → W12} (hf : HF f) : Tb Tryz.prog Gt := (A8 hf).add (cv (g := pva f) ent131 (ppva hf))
def eV (x : W12) : W12 :=
 let t0 := bw x
 let t1 := ep x
 let t2 := K12.mul (((t0.1.1.1, t0.1.1.2), (t0.1.2.1.1, t0.1.2.1.2), (t0.1.2.2.1, t0.1.2.2.2)), ((t0.2.1.1, t0.2.1.2), (t0.2.2.1.1, t0.2.2.1.2), (t0.2.2.2.1, t0.2.2.2.2))) (((t1.1.1.1, t1.1.1.2), (t1.1.2.1.1, t1.1.2.1.2), (t1.1.2.2.1, t1.1.2.2.2)), ((t1.2.1.1, t1.2.1.2), (t1.2.2.1.1, t1.2.2.1.2), (t1.2.2.2.1, t1.2.2.2.2)))
 let t3 := bT (bT (((t2.1.1.1, t2.1.1.2), (t2.1.2.1.1, t2.1.2.1.2), (t2.1.2.2.1, t2.1.2.2.2)), ((t2.2.1.1, t2.2.1.2), (t2.2.2.1.1, t2.2.2.1.2), (t2.2.2.2.1, t2.2.2.2.2))))
 let t4 := K12.mul (((t3.1.1.1, t3.1.1.2), (t3.1.2.1.1, t3.1.2.1.2), (t3.1.2.2.1, t3.1.2.2.2)), ((t3.2.1.1, t3.2.1.2), (t3.2.2.1.1, t3.2.2.1.2), (t3.2.2.2.1, t3.2.2.2.2))) (((t2.1.1.1, t2.1.1.2), (t2.1.2.1.1, t2.1.2.1.2), (t2.1.2.2.1, t2.1.2.2.2)), ((t2.2.1.1, t2.2.1.2), (t2.2.2.1.1, t2.2.2.1.2), (t2.2.2.2.1, t2.2.2.2.2)))
 t4
theorem wS (x : W12) : eV x = pez x := by
 unfold eV
 simp only [Es]
 rfl
theorem Hd {f : W12 → W12} (hf : HF f) (x : W12) : Pure Tryz.prog Gt 67 [bt x] (bt (eV x)) := (a8 (l1 (V12 _)) (V12 _) (pE (BI hf) Tryz.func67 [.inl [x.1.1.1, x.1.1.2, x.1.2.1.1, x.1.2.1.2, x.1.2.2.1, x.1.2.2.2, x.2.1.1, x.2.1.2, x.2.2.1.1, x.2.2.1.2, x.2.2.2.1, x.2.2.2.2]] (.inl (.inl [(eV x).1.1.1, (eV x).1.1.2, (eV x).1.2.1.1, (eV x).1.2.1.2, (eV x).1.2.2.1, (eV x).1.2.2.2, (eV x).2.1.1, (eV x).2.1.2, (eV x).2.2.1.1, (eV x).2.2.1.2, (eV x).2.2.2.1, (eV x).2.2.2.2])) (let t0 := bw x; let t1 := ep x; let t2 := K12.mul (((t0.1.1.1, t0.1.1.2), (t0.1.2.1.1, t0.1.2.1.2), (t0.1.2.2.1, t0.1.2.2.2)), ((t0.2.1.1, t0.2.1.2), (t0.2.2.1.1, t0.2.2.1.2), (t0.2.2.2.1, t0.2.2.2.2))) (((t1.1.1.1, t1.1.1.2), (t1.1.2.1.1, t1.1.2.1.2), (t1.1.2.2.1, t1.1.2.2.2)), ((t1.2.1.1, t1.2.1.2), (t1.2.2.1.1, t1.2.2.1.2), (t1.2.2.2.1, t1.2.2.2.2))); let t3 := bT (bT (((t2.1.1.1, t2.1.1.2), (t2.1.2.1.1, t2.1.2.1.2), (t2.1.2.2.1, t2.1.2.2.2)), ((t2.2.1.1, t2.2.1.2), (t2.2.2.1.1, t2.2.2.1.2), (t2.2.2.2.1, t2.2.2.2.2)))); let t4 := K12.mul (((t3.1.1.1, t3.1.1.2), (t3.1.2.1.1, t3.1.2.1.2), (t3.1.2.2.1, t3.1.2.2.2)), ((t3.2.1.1, t3.2.1.2), (t3.2.2.1.1, t3.2.2.1.2), (t3.2.2.2.1, t3.2.2.2.2))) (((t2.1.1.1, t2.1.1.2), (t2.1.2.1.1, t2.1.2.1.2), (t2.1.2.2.1, t2.1.2.2.2)), ((t2.2.1.1, t2.2.1.2), (t2.2.2.1.1, t2.2.2.1.2), (t2.2.2.2.1, t2.2.2.2.2))); (.inl (.inl [t4.1.1.1, t4.1.1.2, t4.1.2.1.1, t4.1.2.1.2, t4.1.2.2.1, t4.1.2.2.2, t4.2.1.1, t4.2.1.2, t4.2.2.1.1, t4.2.2.1.2, t4.2.2.2.1, t4.2.2.2.2]), [])) [] (by kernel_rfl) aG (by kernel_rfl)))
theorem ppez {f : W12 → W12} (hf : HF f) (x : W12) : Pure Tryz.prog Gt 67 [bt x] (bt (pez x)) := by rw [← wS]; exact Hd hf x
def BH {f : W12 → W12} (hf : HF f) : Tb Tryz.prog Gt := (BI hf).add (cv (g := pez) ent67 (ppez hf))
def eU (f : W12 → W12) (x : W12) : W12 :=
 let t0 := pva f x
 let t1 := pva f (((t0.1.1.1, t0.1.1.2), (t0.1.2.1.1, t0.1.2.1.2), (t0.1.2.2.1, t0.1.2.2.2)), ((t0.2.1.1, t0.2.1.2), (t0.2.2.1.1, t0.2.2.1.2), (t0.2.2.2.1, t0.2.2.2.2)))
 let t2 := bT (((t1.1.1.1, t1.1.1.2), (t1.1.2.1.1, t1.1.2.1.2), (t1.1.2.2.1, t1.1.2.2.2)), ((t1.2.1.1, t1.2.1.2), (t1.2.2.1.1, t1.2.2.1.2), (t1.2.2.2.1, t1.2.2.2.2)))
 let t3 := f (((t1.1.1.1, t1.1.1.2), (t1.1.2.1.1, t1.1.2.1.2), (t1.1.2.2.1, t1.1.2.2.2)), ((t1.2.1.1, t1.2.1.2), (t1.2.2.1.1, t1.2.2.1.2), (t1.2.2.2.1, t1.2.2.2.2)))
 let t4 := bw (((t3.1.1.1, t3.1.1.2), (t3.1.2.1.1, t3.1.2.1.2), (t3.1.2.2.1, t3.1.2.2.2)), ((t3.2.1.1, t3.2.1.2), (t3.2.2.1.1, t3.2.2.1.2), (t3.2.2.2.1, t3.2.2.2.2)))
 let t5 := K12.mul (((t2.1.1.1, t2.1.1.2), (t2.1.2.1.1, t2.1.2.1.2), (t2.1.2.2.1, t2.1.2.2.2)), ((t2.2.1.1, t2.2.1.2), (t2.2.2.1.1, t2.2.2.1.2), (t2.2.2.2.1, t2.2.2.2.2))) (((t4.1.1.1, t4.1.1.2), (t4.1.2.1.1, t4.1.2.1.2), (t4.1.2.2.1, t4.1.2.2.2)), ((t4.2.1.1, t4.2.1.2), (t4.2.2.1.1, t4.2.2.1.2), (t4.2.2.2.1, t4.2.2.2.2)))
 let t6 := f (((t5.1.1.1, t5.1.1.2), (t5.1.2.1.1, t5.1.2.1.2), (t5.1.2.2.1, t5.1.2.2.2)), ((t5.2.1.1, t5.2.1.2), (t5.2.2.1.1, t5.2.2.1.2), (t5.2.2.2.1, t5.2.2.2.2)))
 let t7 := f (((t6.1.1.1, t6.1.1.2), (t6.1.2.1.1, t6.1.2.1.2), (t6.1.2.2.1, t6.1.2.2.2)), ((t6.2.1.1, t6.2.1.2), (t6.2.2.1.1, t6.2.2.1.2), (t6.2.2.2.1, t6.2.2.2.2)))
 let t8 := bT (bT (((t5.1.1.1, t5.1.1.2), (t5.1.2.1.1, t5.1.2.1.2), (t5.1.2.2.1, t5.1.2.2.2)), ((t5.2.1.1, t5.2.1.2), (t5.2.2.1.1, t5.2.2.1.2), (t5.2.2.2.1, t5.2.2.2.2))))
 let t9 := K12.mul (((t7.1.1.1, t7.1.1.2), (t7.1.2.1.1, t7.1.2.1.2), (t7.1.2.2.1, t7.1.2.2.2)), ((t7.2.1.1, t7.2.1.2), (t7.2.2.1.1, t7.2.2.1.2), (t7.2.2.2.1, t7.2.2.2.2))) (((t8.1.1.1, t8.1.1.2), (t8.1.2.1.1, t8.1.2.1.2), (t8.1.2.2.1, t8.1.2.2.2)), ((t8.2.1.1, t8.2.1.2), (t8.2.2.1.1, t8.2.2.1.2), (t8.2.2.2.1, t8.2.2.2.2)))
 let t10 := bw (((t5.1.1.1, t5.1.1.2), (t5.1.2.1.1, t5.1.2.1.2), (t5.1.2.2.1, t5.1.2.2.2)), ((t5.2.1.1, t5.2.1.2), (t5.2.2.1.1, t5.2.2.1.2), (t5.2.2.2.1, t5.2.2.2.2)))
 let t11 := K12.mul (((t9.1.1.1, t9.1.1.2), (t9.1.2.1.1, t9.1.2.1.2), (t9.1.2.2.1, t9.1.2.2.2)), ((t9.2.1.1, t9.2.1.2), (t9.2.2.1.1, t9.2.2.1.2), (t9.2.2.2.1, t9.2.2.2.2))) (((t10.1.1.1, t10.1.1.2), (t10.1.2.1.1, t10.1.2.1.2), (t10.1.2.2.1, t10.1.2.2.2)), ((t10.2.1.1, t10.2.1.2), (t10.2.2.1.1, t10.2.2.1.2), (t10.2.2.2.1, t10.2.2.2.2)))
 let t12 := K12.mul x x
 let t13 := K12.mul (((t11.1.1.1, t11.1.1.2), (t11.1.2.1.1, t11.1.2.1.2), (t11.1.2.2.1, t11.1.2.2.2)), ((t11.2.1.1, t11.2.1.2), (t11.2.2.1.1, t11.2.2.1.2), (t11.2.2.2.1, t11.2.2.2.2))) (((t12.1.1.1, t12.1.1.2), (t12.1.2.1.1, t12.1.2.1.2), (t12.1.2.2.1, t12.1.2.2.2)), ((t12.2.1.1, t12.2.1.2), (t12.2.2.1.1, t12.2.2.1.2), (t12.2.2.2.1, t12.2.2.2.2)))
 let t14 := K12.mul (((t13.1.1.1, t13.1.1.2), (t13.1.2.1.1, t13.1.2.1.2), (t13.1.2.2.1, t13.1.2.2.2)), ((t13.2.1.1, t13.2.1.2), (t13.2.2.1.1, t13.2.2.1.2), (t13.2.2.2.1, t13.2.2.2.2))) x
 t14
theorem vz (f : W12 → W12) (x : W12) : eU f x = phd f x := by
 unfold eU
 simp only [Es]
 rfl
theorem GM {f : W12 → W12} (hf : HF f) (x : W12) : Pure Tryz.prog Gt 66 [bt x] (bt (eU f x)) := (a8 (l1 (V12 _)) (V12 _) (pE (BH hf) Tryz.func66 [.inl [x.1.1.1, x.1.1.2, x.1.2.1.1, x.1.2.1.2, x.1.2.2.1, x.1.2.2.2, x.2.1.1, x.2.1.2, x.2.2.1.1, x.2.2.1.2, x.2.2.2.1, x.2.2.2.2]] (.inl (.inl [(eU f x).1.1.1, (eU f x).1.1.2, (eU f x).1.2.1.1, (eU f x).1.2.1.2, (eU f x).1.2.2.1, (eU f x).1.2.2.2, (eU f x).2.1.1, (eU f x).2.1.2, (eU f x).2.2.1.1, (eU f x).2.2.1.2, (eU f x).2.2.2.1, (eU f x).2.2.2.2])) (let t0 := pva f x; let t1 := pva f (((t0.1.1.1, t0.1.1.2), (t0.1.2.1.1, t0.1.2.1.2), (t0.1.2.2.1, t0.1.2.2.2)), ((t0.2.1.1, t0.2.1.2), (t0.2.2.1.1, t0.2.2.1.2), (t0.2.2.2.1, t0.2.2.2.2))); let t2 := bT (((t1.1.1.1, t1.1.1.2), (t1.1.2.1.1, t1.1.2.1.2), (t1.1.2.2.1, t1.1.2.2.2)), ((t1.2.1.1, t1.2.1.2), (t1.2.2.1.1, t1.2.2.1.2), (t1.2.2.2.1, t1.2.2.2.2))); let t3 := f (((t1.1.1.1, t1.1.1.2), (t1.1.2.1.1, t1.1.2.1.2), (t1.1.2.2.1, t1.1.2.2.2)), ((t1.2.1.1, t1.2.1.2), (t1.2.2.1.1, t1.2.2.1.2), (t1.2.2.2.1, t1.2.2.2.2))); let t4 := bw (((t3.1.1.1, t3.1.1.2), (t3.1.2.1.1, t3.1.2.1.2), (t3.1.2.2.1, t3.1.2.2.2)), ((t3.2.1.1, t3.2.1.2), (t3.2.2.1.1, t3.2.2.1.2), (t3.2.2.2.1, t3.2.2.2.2))); let t5 := K12.mul (((t2.1.1.1, t2.1.1.2), (t2.1.2.1.1, t2.1.2.1.2), (t2.1.2.2.1, t2.1.2.2.2)), ((t2.2.1.1, t2.2.1.2), (t2.2.2.1.1, t2.2.2.1.2), (t2.2.2.2.1, t2.2.2.2.2))) (((t4.1.1.1, t4.1.1.2), (t4.1.2.1.1, t4.1.2.1.2), (t4.1.2.2.1, t4.1.2.2.2)), ((t4.2.1.1, t4.2.1.2), (t4.2.2.1.1, t4.2.2.1.2), (t4.2.2.2.1, t4.2.2.2.2))); let t6 := f (((t5.1.1.1, t5.1.1.2), (t5.1.2.1.1, t5.1.2.1.2), (t5.1.2.2.1, t5.1.2.2.2)), ((t5.2.1.1, t5.2.1.2), (t5.2.2.1.1, t5.2.2.1.2), (t5.2.2.2.1, t5.2.2.2.2))); let t7 := f (((t6.1.1.1, t6.1.1.2), (t6.1.2.1.1, t6.1.2.1.2), (t6.1.2.2.1, t6.1.2.2.2)), ((t6.2.1.1, t6.2.1.2), (t6.2.2.1.1, t6.2.2.1.2), (t6.2.2.2.1, t6.2.2.2.2))); let t8 := bT (bT (((t5.1.1.1, t5.1.1.2), (t5.1.2.1.1, t5.1.2.1.2), (t5.1.2.2.1, t5.1.2.2.2)), ((t5.2.1.1, t5.2.1.2), (t5.2.2.1.1, t5.2.2.1.2), (t5.2.2.2.1, t5.2.2.2.2)))); let t9 := K12.mul (((t7.1.1.1, t7.1.1.2), (t7.1.2.1.1, t7.1.2.1.2), (t7.1.2.2.1, t7.1.2.2.2)), ((t7.2.1.1, t7.2.1.2), (t7.2.2.1.1, t7.2.2.1.2), (t7.2.2.2.1, t7.2.2.2.2))) (((t8.1.1.1, t8.1.1.2), (t8.1.2.1.1, t8.1.2.1.2), (t8.1.2.2.1, t8.1.2.2.2)), ((t8.2.1.1, t8.2.1.2), (t8.2.2.1.1, t8.2.2.1.2), (t8.2.2.2.1, t8.2.2.2.2))); let t10 := bw (((t5.1.1.1, t5.1.1.2), (t5.1.2.1.1, t5.1.2.1.2), (t5.1.2.2.1, t5.1.2.2.2)), ((t5.2.1.1, t5.2.1.2), (t5.2.2.1.1, t5.2.2.1.2), (t5.2.2.2.1, t5.2.2.2.2))); let t11 := K12.mul (((t9.1.1.1, t9.1.1.2), (t9.1.2.1.1, t9.1.2.1.2), (t9.1.2.2.1, t9.1.2.2.2)), ((t9.2.1.1, t9.2.1.2), (t9.2.2.1.1, t9.2.2.1.2), (t9.2.2.2.1, t9.2.2.2.2))) (((t10.1.1.1, t10.1.1.2), (t10.1.2.1.1, t10.1.2.1.2), (t10.1.2.2.1, t10.1.2.2.2)), ((t10.2.1.1, t10.2.1.2), (t10.2.2.1.1, t10.2.2.1.2), (t10.2.2.2.1, t10.2.2.2.2))); let t12 := K12.mul x x; let t13 := K12.mul (((t11.1.1.1, t11.1.1.2), (t11.1.2.1.1, t11.1.2.1.2), (t11.1.2.2.1, t11.1.2.2.2)), ((t11.2.1.1, t11.2.1.2), (t11.2.2.1.1, t11.2.2.1.2), (t11.2.2.2.1, t11.2.2.2.2))) (((t12.1.1.1, t12.1.1.2), (t12.1.2.1.1, t12.1.2.1.2), (t12.1.2.2.1, t12.1.2.2.2)), ((t12.2.1.1, t12.2.1.2), (t12.2.2.1.1, t12.2.2.1.2), (t12.2.2.2.1, t12.2.2.2.2))); let t14 := K12.mul (((t13.1.1.1, t13.1.1.2), (t13.1.2.1.1, t13.1.2.1.2), (t13.1.2.2.1, t13.1.2.2.2)), ((t13.2.1.1, t13.2.1.2), (t13.2.2.1.1, t13.2.2.1.2), (t13.2.2.2.1, t13.2.2.2.2))) x; (.inl (.inl [t14.1.1.1, t14.1.1.2, t14.1.2.1.1, t14.1.2.1.2, t14.1.2.2.1, t14.1.2.2.2, t14.2.1.1, t14.2.1.2, t14.2.2.1.1, t14.2.2.1.2, t14.2.2.2.1, t14.2.2.2.2]), [])) [] (by kernel_rfl) aG (by kernel_rfl)))
theorem pphd {f : W12 → W12} (hf : HF f) (x : W12) : Pure Tryz.prog Gt 66 [bt x] (bt (phd f x)) := by rw [← vz]; exact GM hf x
def HP {f : W12 → W12} (hf : HF f) : Tb Tryz.prog Gt := (BH hf).add (cv (g := phd f) ent66 (pphd hf))
theorem zE {f : W12 → W12} (hf : HF f) (x : W12) : Pure Tryz.prog Gt 24 [bt x] (bt (phd f (pez x))) := (a8 (l1 (V12 _)) (V12 _) (pE (HP hf) Tryz.func24 [.inl [x.1.1.1, x.1.1.2, x.1.2.1.1, x.1.2.1.2, x.1.2.2.1, x.1.2.2.2, x.2.1.1, x.2.1.2, x.2.2.1.1, x.2.2.1.2, x.2.2.2.1, x.2.2.2.2]] (.inl (.inl [(phd f (pez x)).1.1.1, (phd f (pez x)).1.1.2, (phd f (pez x)).1.2.1.1, (phd f (pez x)).1.2.1.2, (phd f (pez x)).1.2.2.1, (phd f (pez x)).1.2.2.2, (phd f (pez x)).2.1.1, (phd f (pez x)).2.1.2, (phd f (pez x)).2.2.1.1, (phd f (pez x)).2.2.1.2, (phd f (pez x)).2.2.2.1, (phd f (pez x)).2.2.2.2])) (let t0 := pez x; let t1 := phd f (((t0.1.1.1, t0.1.1.2), (t0.1.2.1.1, t0.1.2.1.2), (t0.1.2.2.1, t0.1.2.2.2)), ((t0.2.1.1, t0.2.1.2), (t0.2.2.1.1, t0.2.2.1.2), (t0.2.2.2.1, t0.2.2.2.2))); (.inl (.inl [t1.1.1.1, t1.1.1.2, t1.1.2.1.1, t1.1.2.1.2, t1.1.2.2.1, t1.1.2.2.2, t1.2.1.1, t1.2.1.2, t1.2.2.1.1, t1.2.2.1.2, t1.2.2.2.1, t1.2.2.2.2]), [])) [] (by kernel_rfl) aG (by kernel_rfl)))
theorem xX (x : W12) : Pure Tryz.prog Gt 24 [bt x] (bt (hH UG x)) := by rw [DH]; exact zE Gp x
end Q6
end Go.Proofs.YtpnpiblphnpfiaaGreatDoor
