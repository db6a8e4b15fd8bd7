/-
 Elements of fp12 as values; what the laws of layer 7 share.
 The walks of package fp12.
 The walks of package fp12: powers.
 The walks of package fp12: its parts.
 The walks of package fp12: powers of p.
-/
import Derived.Test.YtpnpiblphnpfiaaGreatDoorXE
import Derived.Test.YtpnpiblphnpfiaaGreatDoorX3
import Derived.Test.YtpnpiblphnpfiaaGreatDoorXJ
import Derived.Test.YtpnpiblphnpfiaaGreatDoorX5
set_option maxRecDepth 100000
set_option maxHeartbeats 1000000
namespace Go.Proofs.YtpnpiblphnpfiaaGreatDoor
section
open Go.RowKit
theorem ent132 : ae Tryz.prog 132 := fun _ _ => by kernel_rfl
theorem ent174 : ae Tryz.prog 174 := fun _ _ => by kernel_rfl
theorem ent35 : ae Tryz.prog 35 := fun _ _ => by kernel_rfl
theorem ent196 : ae Tryz.prog 196 := fun _ _ => by kernel_rfl
theorem ent26 : ae Tryz.prog 26 := fun _ _ => by kernel_rfl
theorem ent176 : ae Tryz.prog 176 := fun _ _ => by kernel_rfl
theorem ent30 : ae Tryz.prog 30 := fun _ _ => by kernel_rfl
theorem ent81 : ae Tryz.prog 81 := fun _ _ => by kernel_rfl
theorem ent22 : ae Tryz.prog 22 := fun _ _ => by kernel_rfl
theorem ent134 : ae Tryz.prog 134 := fun _ _ => by kernel_rfl
theorem ent82 : ae Tryz.prog 82 := fun _ _ => by kernel_rfl
theorem ent33 : ae Tryz.prog 33 := fun _ _ => by kernel_rfl
theorem ent41 : ae Tryz.prog 41 := fun _ _ => by kernel_rfl
theorem ent175 : ae Tryz.prog 175 := fun _ _ => by kernel_rfl
namespace Q6
attribute [local simp] aP bc aM aH aA a9 aF aE aG PLl bY ca N1l cb cf bZ aU ba aN aZ a7 bX
attribute [local simp] iS eS
abbrev bg (x : W12) : Value := .agg ((((fe (x.1.1).1 ++ fe (x.1.1).2) ++ ((fe (x.1.2.1).1 ++ fe (x.1.2.1).2) ++ (fe (x.1.2.2).1 ++ fe (x.1.2.2).2))) ++ ((fe (x.2.1).1 ++ fe (x.2.1).2) ++ ((fe (x.2.2.1).1 ++ fe (x.2.2.1).2) ++ (fe (x.2.2.2).1 ++ fe (x.2.2.2).2)))).map U64).toArray
theorem zv49 (w : World) : (zeroValue 49).run Tryz.prog w = .ok (.agg ((((fe 0 ++ fe 0) ++ ((fe 0 ++ fe 0) ++ (fe 0 ++ fe 0))) ++ ((fe 0 ++ fe 0) ++ ((fe 0 ++ fe 0) ++ (fe 0 ++ fe 0)))).map U64).toArray) w := by rw [jF]; exact (Tryz.zeroValue49 w).trans (by rfl)
theorem sp : Two Tryz.prog 49 ⟨ "C0", 47, 0, false, "", "", 0⟩ ⟨ "C1", 47, 36, false, "", "", 288⟩ 36 36 ((fe 0 ++ fe 0) ++ ((fe 0 ++ fe 0) ++ (fe 0 ++ fe 0))) ((fe 0 ++ fe 0) ++ ((fe 0 ++ fe 0) ++ (fe 0 ++ fe 0))) := ⟨Tryz.underlying49, rfl, rfl, Tryz.sizeOf47, Tryz.sizeOf47, zv49, by simp, by simp⟩
theorem e12 {a b a' b' : W6} (h1 : a = a') (h2 : b = b') : Ending.returned (bg (a, b)) = .returned (bg (a', b')) := by rw [h1, h2]
theorem rp {x y : W12} (h : x.1 = y.1) : decide (x.2 = y.2) = decide (x = y) := decide_eq_decide.2 ⟨fun e => Prod.ext h e, fun e => by rw [e]⟩
theorem rl {x y : W12} (h : ¬ x.1 = y.1) : false = decide (x = y) := (decide_eq_false fun e => h (by rw [e])).symm
def p12 (x : W12) : Nat → W2
 | 0 => x.1.1
 | 1 => x.2.1
 | 2 => x.1.2.1
 | 3 => x.2.2.1
 | 4 => x.1.2.2
 | _ => x.2.2.2
def q12 : Sh W12 := q6.two q6 6
theorem V12 (x : W12) : bg x = dn rid (.inl [x.1.1.1, x.1.1.2, x.1.2.1.1, x.1.2.1.2, x.1.2.2.1, x.1.2.2.2, x.2.1.1, x.2.1.2, x.2.2.1.1, x.2.2.1.2, x.2.2.2.1, x.2.2.2.2]) := by
 show Value.agg _ = Value.agg _
 rw [clv, show cel [x.1.1.1, x.1.1.2, x.1.2.1.1, x.1.2.1.2, x.1.2.2.1, x.1.2.2.2, x.2.1.1, x.2.1.2, x.2.2.1.1, x.2.2.1.2, x.2.2.2.1, x.2.2.2.2] = fe x.1.1.1 ++ (fe x.1.1.2 ++ (fe x.1.2.1.1 ++ (fe x.1.2.1.2 ++ (fe x.1.2.2.1 ++ (fe x.1.2.2.2 ++ (fe x.2.1.1 ++ (fe x.2.1.2 ++ (fe x.2.2.1.1 ++ (fe x.2.2.1.2 ++ (fe x.2.2.2.1 ++ fe x.2.2.2.2)))))))))) from rfl]
 simp only [List.append_assoc]
end Q6
end
section
open Go.RowKit
namespace Q6
attribute [local simp] aP bc aM aH aA a9 aF aE aG PLl bY ca N1l cb cf bZ aU ba aN aZ a7 bX
theorem rW2 {Q P : Prop} (k : Q) (h : Q → P := by intro k; (refine LY.run ?_); (repeat (first | refine bI rfl rfl rfl ?_ | refine bd rfl rfl rfl ?_ | ((refine yr rfl rfl ?_ rfl rfl rfl rfl ?_); (· simp)) | ((refine yE rfl rfl ?_ ?_ rfl rfl rfl rfl ?_); (· simp); (· simp)) | ((refine G3 rfl rfl ?_ rfl rfl ?_); (· simp)) | ((refine E7 hGF rfl rfl rfl ?_ ?_ (ak _) rfl ?_); (· simp); (· simp)) | ((refine na hGF rfl rfl rfl ?_ ?_ (ak _) rfl ?_); (· simp); (· simp)) | refine bT (f := 90) rfl rfl ent90 (uh _ _) rfl rfl ?_ | refine bT (f := 91) rfl rfl ent91 (ut _ _) rfl rfl ?_ | refine bT (f := 93) rfl rfl ent93 (xo _ _) rfl rfl ?_ | refine bT (f := 92) rfl rfl ent92 (k6v _) rfl rfl ?_ | refine bT (f := 177) rfl rfl ent177 (kT _) rfl rfl ?_ | refine fI rfl rfl rfl rfl rfl ?_)); (first | refine cm ?_ | refine LY.mk ?_); exact k) : P := h k
theorem pW2 {Q P : Prop} (k : Q) (h : Q → P := by intro k; (refine xp ?_); (refine rW2 ?_); exact k) : P := h k
attribute [local simp] iS eS
theorem gR  : Pure Tryz.prog Gt 22 [] (bg K12.one) := (bv rfl (V12 _) (pE TO51 Tryz.func22 [] (.inl (.inl [K12.one.1.1.1, K12.one.1.1.2, K12.one.1.2.1.1, K12.one.1.2.1.2, K12.one.1.2.2.1, K12.one.1.2.2.2, K12.one.2.1.1, K12.one.2.1.2, K12.one.2.2.1.1, K12.one.2.2.1.2, K12.one.2.2.2.1, K12.one.2.2.2.2])) (let t0 := K6.one; (.inl (.inl [t0.1.1, t0.1.2, t0.2.1.1, t0.2.1.2, t0.2.2.1, t0.2.2.2, 0, 0, 0, 0, 0, 0]), [])) [] (by kernel_rfl) aR rfl))
theorem xl {f : Nat} {g : W12} (en : ae Tryz.prog f) (h : Pure Tryz.prog Gt f [] (bg g)) : Snd Tryz.prog Gt f (c0 q12.rd g) := oy q12.rd en (bv rfl (V12 _).symm h)
def TO52 : Tb Tryz.prog Gt := TO51.add (xl (g := K12.one) ent22 gR)
theorem dJ (x y : W12) : Pure Tryz.prog Gt 33 [bg x, bg y] (.bool (decide (x = y))) := by
 intro w hw
 have hGF : BOk Gt (pl w) := gt_low.plain hw
 by_cases h : x.1 = y.1
 ·skip
  refine aB (G := Gt) Tryz.func33 rfl rfl (Hp (pl w) []) (aJ (pl w) trivial ai) (ap hGF) ?_
  refine xp ?_
  refine lb fun b2 => ?_
  refine lb fun b3 => ?_
  refine rW2 ?_
  refine pW2 ?_
  refine da true rfl rfl ent84 (jx _ _) (decide_eq_true h) rfl rfl ?_
  refine rW2 ?_
  refine lc ent84 (jx _ _) ?_
  refine rW2 ?_
  refine rt ?_
  exact a5 rfl rfl (fun w hw => ⟨rb (rp h), ah hw⟩)
 ·skip
  refine aB (G := Gt) Tryz.func33 rfl rfl (Hp (pl w) []) (aJ (pl w) trivial ai) (ap hGF) ?_
  refine xp ?_
  refine lb fun b2 => ?_
  refine lb fun b3 => ?_
  refine rW2 ?_
  refine pW2 ?_
  refine da false rfl rfl ent84 (jx _ _) (decide_eq_false h) rfl rfl ?_
  refine rW2 ?_
  refine aC rfl rfl rfl ?_
  refine aC rfl rfl rfl ?_
  refine aC rfl rfl rfl ?_
  refine aC rfl rfl rfl ?_
  refine aC rfl rfl rfl ?_
  refine rW2 ?_
  refine rt ?_
  exact a5 rfl rfl (fun w hw => ⟨rb (rl h), ah hw⟩)
theorem fx {f : Nat} {g : W12 → W12 → Bool} (en : ae Tryz.prog f) (h : ∀ a b, Pure Tryz.prog Gt f [bg a, bg b] (.bool (g a b))) : Snd Tryz.prog Gt f (c2 q12.ag q12.ag rdB g) := dP q12.ag q12.ag rdB en (fun a b => bv (l2 (V12 _).symm (V12 _).symm) rfl (h a b))
def TO53 : Tb Tryz.prog Gt := TO52.add (fx (g := fun x y => decide (x = y)) ent33 dJ)
theorem iR (x : W12) : Pure Tryz.prog Gt 26 [bg x] (.bool (decide (x = K12.zero))) := by
 intro w hw
 have hGF : BOk Gt (pl w) := gt_low.plain hw
 by_cases h : x.1 = K6.zero
 ·skip
  refine aB (G := Gt) Tryz.func26 rfl rfl (Hp (pl w) []) (aJ (pl w) trivial ai) (ap hGF) ?_
  refine xp ?_
  refine lb fun b1 => ?_
  refine rW2 ?_
  refine pW2 ?_
  refine da true rfl rfl ent76 (iB _) (decide_eq_true h) rfl rfl ?_
  refine rW2 ?_
  refine lc ent76 (iB _) ?_
  refine rW2 ?_
  refine rt ?_
  exact a5 rfl rfl (fun w hw => ⟨rb (rp (y := K12.zero) h), ah hw⟩)
 ·skip
  refine aB (G := Gt) Tryz.func26 rfl rfl (Hp (pl w) []) (aJ (pl w) trivial ai) (ap hGF) ?_
  refine xp ?_
  refine lb fun b1 => ?_
  refine rW2 ?_
  refine pW2 ?_
  refine da false rfl rfl ent76 (iB _) (decide_eq_false h) rfl rfl ?_
  refine rW2 ?_
  refine aC rfl rfl rfl ?_
  refine aC rfl rfl rfl ?_
  refine aC rfl rfl rfl ?_
  refine rW2 ?_
  refine rt ?_
  exact a5 rfl rfl (fun w hw => ⟨rb (rl (y := K12.zero) h), ah hw⟩)
theorem kd {f : Nat} {g : W12 → Bool} (en : ae Tryz.prog f) (h : ∀ a, Pure Tryz.prog Gt f [bg a] (.bool (g a))) : Snd Tryz.prog Gt f (c1 q12.ag rdB g) := eB q12.ag rdB en (fun a => bv (l1 (V12 _).symm) rfl (h a))
def TO54 : Tb Tryz.prog Gt := TO53.add (kd (g := fun x => decide (x = K12.zero)) ent26 iR)
theorem jA (x : W12) : Pure Tryz.prog Gt 41 [bg x] (bg (bu x)) := (bv (l1 (V12 _)) (V12 _) (pE TO54 Tryz.func41 [.inl [x.1.1.1, x.1.1.2, x.1.2.1.1, x.1.2.1.2, x.1.2.2.1, x.1.2.2.2, x.2.1.1, x.2.1.2, x.2.2.1.1, x.2.2.1.2, x.2.2.2.1, x.2.2.2.2]] (.inl (.inl [(bu x).1.1.1, (bu x).1.1.2, (bu x).1.2.1.1, (bu x).1.2.1.2, (bu x).1.2.2.1, (bu x).1.2.2.2, (bu x).2.1.1, (bu x).2.1.2, (bu x).2.2.1.1, (bu x).2.2.1.2, (bu x).2.2.2.1, (bu x).2.2.2.2])) (let t0 := K6.neg ((x.2.1.1, x.2.1.2), (x.2.2.1.1, x.2.2.1.2), (x.2.2.2.1, x.2.2.2.2)); (.inl (.inl [x.1.1.1, x.1.1.2, x.1.2.1.1, x.1.2.1.2, x.1.2.2.1, x.1.2.2.2, t0.1.1, t0.1.2, t0.2.1.1, t0.2.1.2, t0.2.2.1, t0.2.2.2]), [])) [] (by kernel_rfl) aR rfl))
theorem ch {f : Nat} {g : W12 → W12} (en : ae Tryz.prog f) (h : ∀ a, Pure Tryz.prog Gt f [bg a] (bg (g a))) : Snd Tryz.prog Gt f (c1 q12.ag q12.rd g) := eB q12.ag q12.rd en (fun a => bv (l1 (V12 _).symm) (V12 _).symm (h a))
def TO55 : Tb Tryz.prog Gt := TO54.add (ch (g := bu) ent41 jA)
theorem mP (x y : W12) : Pure Tryz.prog Gt 35 [bg x, bg y] (bg (K12.mul x y)) := by
 refine a8 Tryz.func35 fun w hw hGF => ?_
 refine xp ?_
 refine lb fun b2 => ?_
 refine lb fun b3 => ?_
 refine la zv49 fun b4 => ?_
 refine aa ?_
 refine bU (E := EE [2999999]) [0, 1, 2, 3, 4, 5, 6, 7, 8, 9] [⟨10, 5, 47, ((fe 0 ++ fe 0) ++ ((fe 0 ++ fe 0) ++ (fe 0 ++ fe 0))).map U64⟩, ⟨11, 6, 47, ((fe 0 ++ fe 0) ++ ((fe 0 ++ fe 0) ++ (fe 0 ++ fe 0))).map U64⟩] [12, 13] bq rfl (by kernel_rfl) (by kernel_rfl) (by kernel_rfl) (by kernel_rfl) (by kernel_rfl) (by kernel_rfl) (by decide) (by intro x hx; simp only [List.mem_cons, List.not_mem_nil, or_false] at hx; rcases hx with rfl | rfl <;> exact bz rfl zv47 rfl) ?_
 refine rW2 ?_
 refine ⟨_, _, rfl, hGF, by intro x hx; simp only [List.mem_cons, List.not_mem_nil, or_false] at hx; rcases hx with rfl | rfl <;> rfl, by intro x hx; simp only [List.mem_cons, List.not_mem_nil, or_false] at hx; rcases hx with rfl | rfl <;> rfl, fun adr => ?_⟩
 refine rW2 ?_
 refine bU (E := EE [2999999]) [0, 1, 2, 3, 4, 5, 6, 7, 8, 9, 10] [⟨11, 7, 47, ((fe 0 ++ fe 0) ++ ((fe 0 ++ fe 0) ++ (fe 0 ++ fe 0))).map U64⟩] [12] bq rfl (by kernel_rfl) (by kernel_rfl) (by kernel_rfl) (by kernel_rfl) (by kernel_rfl) (by kernel_rfl) (by decide) (by intro x hx; simp only [List.mem_cons, List.not_mem_nil, or_false] at hx; subst hx; exact bz rfl zv47 rfl) ?_
 refine rW2 ?_
 refine ⟨_, _, rfl, hGF, by intro x hx; simp only [List.mem_cons, List.not_mem_nil, or_false] at hx; subst hx; rfl, by intro x hx; simp only [List.mem_cons, List.not_mem_nil, or_false] at hx; subst hx; rfl, fun adr => ?_⟩
 refine rW2 ?_
 refine bw (E := EE []) bq (by kernel_rfl) (by kernel_rfl) (by kernel_rfl) ?_
 refine rW2 ?_
 refine fM sp rfl rfl (by simp) (by simp) rfl rfl ?_
 refine rW2 ?_
 refine rt ?_
 exact av 4 rfl rfl rfl Tryz.isAgg49 Tryz.sizeOf49 (by simp) (fun w hw => ⟨e12 (zq K6 [x.1, x.2, y.1, y.2, VV] (ta (tm j0 j2) (tvv 4 (tm j1 j3) rfl)) (ta (tm j0 j2) (tm j4 (tm j1 j3)))) (zq K6 [x.1, x.2, y.1, y.2, VV] (vq (vq (tm (ta j0 j1) (ta j2 j3)) (tm j0 j2)) (tm j1 j3)) (ta (tm j0 j3) (tm j1 j2))), ah hw⟩)
theorem gW {f : Nat} {g : W12 → W12 → W12} (en : ae Tryz.prog f) (h : ∀ a b, Pure Tryz.prog Gt f [bg a, bg b] (bg (g a b))) : Snd Tryz.prog Gt f (c2 q12.ag q12.ag q12.rd g) := dP q12.ag q12.ag q12.rd en (fun a b => bv (l2 (V12 _).symm (V12 _).symm) (V12 _).symm (h a b))
theorem fo (x : W12) : Pure Tryz.prog Gt 82 [bg x] (bg (K12.mul x x)) := by
 refine a8 Tryz.func82 fun w hw hGF => ?_
 refine xp ?_
 refine lb fun b1 => ?_
 refine la zv49 fun b2 => ?_
 refine aa ?_
 refine pW2 ?_
 refine la zv47 fun b3 => ?_
 refine rW2 ?_
 refine bU (E := EE [2999999]) [0, 1, 2, 3, 4, 5, 6, 7, 8, 9, 10, 11] [⟨12, 4, 47, ((fe 0 ++ fe 0) ++ ((fe 0 ++ fe 0) ++ (fe 0 ++ fe 0))).map U64⟩] [13] bq rfl (by kernel_rfl) (by kernel_rfl) (by kernel_rfl) (by kernel_rfl) (by kernel_rfl) (by kernel_rfl) (by decide) (by intro x hx; simp only [List.mem_cons, List.not_mem_nil, or_false] at hx; subst hx; exact bz rfl zv47 rfl) ?_
 refine rW2 ?_
 refine ⟨_, _, rfl, hGF, by intro x hx; simp only [List.mem_cons, List.not_mem_nil, or_false] at hx; subst hx; rfl, by intro x hx; simp only [List.mem_cons, List.not_mem_nil, or_false] at hx; subst hx; rfl, fun adr => ?_⟩
 refine rW2 ?_
 refine bw (E := EE []) bq (by kernel_rfl) (by kernel_rfl) (by kernel_rfl) ?_
 refine rW2 ?_
 refine fM sp rfl rfl (by simp) (by simp) rfl rfl ?_
 refine rW2 ?_
 refine rt ?_
 exact av 2 rfl rfl rfl Tryz.isAgg49 Tryz.sizeOf49 (by simp) (fun w hw => ⟨e12 (zq K6 [x.1, x.2, VV] (vq (vq (tm (ta j0 j1) (ta j0 (tvv 2 j1 rfl))) (tm j0 j1)) (tvv 2 (tm j0 j1) rfl)) (ta (tm j0 j0) (tm j2 (tm j1 j1)))) (zq K6 [x.1, x.2, VV] (ta (tm j0 j1) (tm j0 j1)) (ta (tm j0 j1) (tm j1 j0))), ah hw⟩)
theorem Dj (x : W12) : sb6 (K6.mul x.1 x.1) (v6 (K6.mul x.2 x.2)) = qnm K6 VV x := zq K6 [x.1, x.2, VV] (vq (tm j0 j0) (tvv 2 (tm j1 j1) rfl)) (ta (tm j0 j0) (tn (tm j2 (tm j1 j1))))
theorem Hs (x : W12) (n : W6) : K6.mul x.1 n = K6.add (K6.mul x.1 n) (K6.mul VV (K6.mul (K6.neg x.2) K6.zero)) := zq K6 [x.1, x.2, n, VV] (tm j0 j2) (ta (tm j0 j2) (tm j3 (tm (tn j1) tz0)))
theorem Fa (x : W12) (n : W6) : K6.neg (K6.mul x.2 n) = K6.add (K6.mul x.1 K6.zero) (K6.mul (K6.neg x.2) n) := zq K6 [x.1, x.2, n] (tn (tm j1 j2)) (ta (tm j0 tz0) (tm (tn j1) j2))
theorem Ds (x : W12) : Pure Tryz.prog Gt 134 [bg x] (bg (fq x)) := by
 refine a8 Tryz.func134 fun w hw hGF => ?_
 refine xp ?_
 refine lb fun b1 => ?_
 refine la zv49 fun b2 => ?_
 refine aa ?_
 refine bU (E := EE [2999999]) [0, 1, 2, 3, 4, 5, 6, 7] [⟨8, 3, 47, ((fe 0 ++ fe 0) ++ ((fe 0 ++ fe 0) ++ (fe 0 ++ fe 0))).map U64⟩] [9] bq rfl (by kernel_rfl) (by kernel_rfl) (by kernel_rfl) (by kernel_rfl) (by kernel_rfl) (by kernel_rfl) (by decide) (by intro x hx; simp only [List.mem_cons, List.not_mem_nil, or_false] at hx; subst hx; exact bz rfl zv47 rfl) ?_
 refine rW2 ?_
 refine ⟨_, _, rfl, hGF, by intro x hx; simp only [List.mem_cons, List.not_mem_nil, or_false] at hx; subst hx; rfl, by intro x hx; simp only [List.mem_cons, List.not_mem_nil, or_false] at hx; subst hx; rfl, fun adr => ?_⟩
 refine rW2 ?_
 refine pW2 ?_
 refine lc ent178 (vS _) ?_
 refine la zv47 fun b4 => ?_
 refine rW2 ?_
 refine bw (E := EE []) bq (by kernel_rfl) (by kernel_rfl) (by kernel_rfl) ?_
 refine rW2 ?_
 refine lc ent99 (vF _) ?_
 refine fM sp rfl rfl (by simp) (by simp) rfl rfl ?_
 refine rW2 ?_
 refine rt ?_
 exact av 2 rfl rfl rfl Tryz.isAgg49 Tryz.sizeOf49 (by simp) (fun w hw => ⟨by rw [Dj]; exact e12 (Hs _ _) (Fa _ _), ah hw⟩)
end Q6
end
section
open Go.RowKit
theorem ent149 : ae Tryz.prog 149 := fun _ _ => by kernel_rfl
namespace Q6
attribute [local simp] aP bc aM aH aA a9 aF aE aG PLl bY ca N1l cb cf bZ aU ba aN aZ a7 bX
theorem rW6 {Q P : Prop} (k : Q) (h : Q → P := by intro k; (refine LY.run ?_); (repeat (first | refine bI rfl rfl rfl ?_ | refine bd rfl rfl rfl ?_ | ((refine pF rfl rfl ?_ rfl rfl ?_); (· simp)) | ((refine na hGF rfl rfl rfl ?_ ?_ (ak _) rfl ?_); (· simp); (· simp)))); (first | refine cm ?_ | refine LY.mk ?_); exact k) : P := h k
theorem pW6 {Q P : Prop} (k : Q) (h : Q → P := by intro k; (refine xp ?_); (refine rW6 ?_); exact k) : P := h k
attribute [local simp] iS eS
def BL (bs : List (BitVec 8)) : List (List Value) := (List.range (8 * bs.length)).map fun m => [.bool (decide (ce bs m = 1#8))]
theorem qk (bs : List (BitVec 8)) : (BL bs).length = 8 * bs.length := by simp [BL]
theorem wu (bs : List (BitVec 8)) (m : Nat) (h : m < 8 * bs.length) : (BL bs)[m]? = some [.bool (decide (ce bs m = 1#8))] := by
 rw [BL, List.getElem?_map, List.getElem?_range h]; rfl
theorem Gz (bs : List (BitVec 8)) (m : Nat) (x : List Value) (h : (BL bs)[m]? = some x) : m < 8 * bs.length ∧ x = [.bool (decide (ce bs m = 1#8))] := by
 have hm : m < 8 * bs.length := by
  rcases Nat.lt_or_ge m (8 * bs.length) with h' | h'
  ·exact h'
  ·rw [List.getElem?_eq_none (by rw [qk]; exact h')] at h; cases h
 rw [wu bs m hm] at h
 exact ⟨hm, (Option.some.inj h).symm⟩
theorem D6 (bs : List (BitVec 8)) (i j : Nat) (hj : j < 8) : (bs.getD i 0 &&& 128#8 >>> j != 0#8) = decide (ce bs (8 * i + j) = 1#8) := by
 rw [CS j hj, ce, show (8 * i + j) / 8 = i by omega, show (8 * i + j) % 8 = j by omega]
theorem Fk (j : Nat) (hj : j ≤ 8) : decide (0#8 < 128#8 >>> j) = decide (j < 8) := by
 rcases Nat.lt_or_ge j 8 with h | h
 ·rw [decide_eq_true (CU j h), decide_eq_true h]
 ·obtain rfl : j = 8 := by omega
  decide
theorem lq (sv : Value) (hs : sv.cells = #[sv]) (w : World) (hw : Gt w) : Calls Tryz.prog 81 [sv].toArray w (fun e w' => ∃ b1, e = .returned (.func (.func 149) #[] #[.pointer (some ⟨b1, 0, none⟩)]) ∧ Grow w w' ∧ w.heap.size ≤ b1 ∧ OwnB w' b1 [sv] 22) := by
 have hGF : BOk Gt (pl w) := gt_low.plain hw
 refine aB (G := Gt) Tryz.func81 rfl rfl (Hp (pl w) []) (aJ (pl w) trivial ai) (ap hGF) ?_
 refine xp ?_
 refine gi 1 hGF rfl rfl rfl ?_
 intro b1
 refine rW6 ?_
 refine xp ?_
 refine eQ rfl rfl rfl rfl ?_
 refine rW6 ?_
 refine rt ?_
 exact a5 rfl rfl (fun w hw => ⟨b1, rfl, ah hw, (hw.own 1 b1 _ _ rfl).2.elim id False.elim, (by have := (hw.own 1 b1 _ _ rfl).1; rw [hs] at this; exact this)⟩)
theorem oc (bb : Nat) (e : Option Addr) (cap : Nat) (bs : List (BitVec 8)) (hlen : bs.length ≤ 1000000) : eu Tryz.prog Gt 149 [.pointer (some ⟨bb, 0, none⟩)] (BL bs) (RdD bb e cap bs) := by
 intro l J Jx hJ hJx hRd hGx hY w hj
 have okJ : ∀ k, BOk Gt (Bi w (fun Y => J Y k)) := fun k => ⟨fun _ _ _ h => (hRd _ _ _ h.rid).1, hJ k⟩
 have okX : ∀ k, BOk Gt (Bi w (fun Y => Jx Y k)) := fun k => ⟨fun _ _ _ h => hGx _ _ _ h.rid, hJx k⟩
 have c1 : ∀ k L w', Hp (Bi w (fun Y => J Y k)) L w' → RdD bb e cap bs w' := fun k L w' h => (hRd _ _ _ h.rid).2
 have hby := (hRd _ _ _ hj).2.2
 refine aB (G := Gt) Tryz.func149 rfl rfl (Hp (Bi w (fun Y => J Y 0)) []) (aJ (Bi w _) hj (hJ 0)) (ap (okJ 0)) ?_
 refine xp ?_
 refine cr rfl Tryz.isAgg22 (fun w h => (c1 _ _ w h).1) rfl rfl ?_
 refine bt rfl (fun _ => aK Tryz.underlying22 _ _ _ _) rfl rfl ?_
 refine rW6 ?_
 refine aj ?_
 refine dV (ι := { i : Nat // i ≤ bs.length }) (fun x => [(0, .func (.yield l) #[] #[]), (1, .pointer (some ⟨bb, 0, none⟩)), (6, .slice e bs.length cap), (7, I (bs.length : Int)), (8, I (x.1 : Int))]) (fun x => Bi w (fun Y => J Y (8 * x.1))) (fun x => []) (fun x => bs.length - x.1) ⟨0, Nat.zero_le _⟩ (fun _ => okJ _) rfl ⟨rfl, rfl, rfl, rfl, rfl, trivial⟩ trivial ?_
 rintro ⟨i, hi⟩
 dsimp only
 refine xp ?_
 refine ac rfl rfl (fun _ => rfl) (fun _ => aQ _ _ _) rfl rfl ?_
 refine aa ?_
 refine ao ?_
 refine bM rfl (fun hc => ?_) (fun hc => ?_)
 ·have hi2 : i < bs.length := by simp at hc; omega
  refine az ?_
  refine ao ?_
  refine aj ?_
  refine xp ?_
  obtain ⟨ad, rfl, _⟩ := hby i _ (gm U8 bs 0 i (by omega))
  refine ku i rfl rfl Tryz.underlying22 Tryz.sizeOf5 rfl (by omega) rfl rfl ?_
  refine cr rfl Tryz.isAgg5 (fun w' h => by obtain ⟨ad', e', hc'⟩ := (c1 _ _ w' h).2 i _ (gm U8 bs 0 i (by omega)); cases e'; exact hc') rfl rfl ?_
  refine rW6 ?_
  refine pW6 ?_
  refine aj ?_
  refine dV (ι := { j : Nat // j ≤ 8 }) (fun x => [(0, .func (.yield l) #[] #[]), (1, .pointer (some ⟨bb, 0, none⟩)), (6, .slice (some ad) bs.length cap), (7, I (bs.length : Int)), (8, I (i : Int)), (4, U8 (bs.getD i 0)), (5, U8 (128#8 >>> x.1))]) (fun x => Bi w (fun Y => J Y (8 * i + x.1))) (fun x => []) (fun x => 8 - x.1) ⟨0, Nat.zero_le _⟩ (fun _ => okJ _) rfl ⟨rfl, rfl, rfl, rfl, rfl, rfl, rfl, trivial⟩ trivial ?_
  rintro ⟨j, hj⟩
  dsimp only
  refine ao ?_
  refine pW6 ?_
  refine ac (v := .bool (decide (j < 8))) rfl rfl (fun _ => rfl) (fun _ => (pX _ _ _).trans (by rw [Fk j hj])) rfl rfl ?_
  refine aa ?_
  refine bM rfl (fun hc => ?_) (fun hc => ?_)
  ·have hj2 : j < 8 := by simpa using hc
   refine az ?_
   refine ao ?_
   refine aj ?_
   refine pW6 ?_
   refine ac (v := U8 (bs.getD i 0 &&& 128#8 >>> j)) rfl rfl (fun _ => rfl) (fun _ => ei _ _ _) rfl rfl ?_
   refine ac (v := .bool (decide (ce bs (8 * i + j) = 1#8))) rfl rfl (fun _ => rfl) (fun _ => (pB _ _ 0#8).trans (by rw [D6 bs i j hj2])) rfl rfl ?_
   refine db (hY.b (k := 8 * i + j) (wu bs (8 * i + j) (by omega)) w) (okJ _) (okX _) rfl rfl rfl rfl rfl ?_ ?_
   ·skip
    refine bx rfl (fun _ => bf _) rfl rfl ?_
    refine aa ?_
    refine bl rfl ?_
    refine az ?_
    refine aq (E := EE []) ?_
    refine rW6 ?_
    refine ac (v := U8 (128#8 >>> (j + 1))) rfl rfl (fun _ => rfl) (fun _ => (kC _ _ 1#64).trans (by rw [show (1#64).toNat = 1 from rfl, Db])) rfl rfl ?_
    refine rW6 ?_
    repeat (refine aO ?_)
    refine bi ?_
    exact ⟨rfl, ⟨j + 1, by omega⟩, _, by show 8 - (j + 1) < 8 - j; omega, rfl, ⟨rfl, rfl, rfl, rfl, rfl, rfl, rfl, trivial⟩, trivial⟩
   ·skip
    refine bx rfl (fun _ => bf _) rfl rfl ?_
    refine aa ?_
    refine bV rfl ?_
    refine rt ?_
    repeat (first | refine cO ?_ | refine bJ ?_ | refine cR rfl ?_ | refine aY ?_ | refine aX ?_)
    exact cF rfl (fun w hw => ⟨⟨_, rfl⟩, .inr ⟨_, bG (hJx _) hw.rid⟩⟩)
  ·obtain rfl : j = 8 := by simp at hc; omega
   refine aW ?_
   refine aq (E := EE []) ?_
   refine ac rfl rfl (fun _ => rfl) (fun _ => aI _ _ _ (by unfold inI; omega)) rfl rfl ?_
   refine rW6 ?_
   repeat (refine aO ?_)
   refine bi ?_
   exact ⟨rfl, ⟨i + 1, by omega⟩, _, by show bs.length - (i + 1) < bs.length - i; omega, rfl, ⟨rfl, rfl, rfl, rfl, rfl, trivial⟩, trivial⟩
 ·obtain rfl : i = bs.length := by simp at hc; omega
  refine aW ?_
  repeat (first | refine cO ?_ | refine bJ ?_ | refine cR rfl ?_ | refine aY ?_ | refine aX ?_)
  refine cS rfl (fun w hw => ⟨⟨_, rfl⟩, .inl ?_⟩)
  have := bG (hJ _) hw.rid
  rw [qk]
  exact this
theorem Dg (x : W12) (bs : List (BitVec 8)) (i : Nat) (h : ce bs i = 1#8) : K12.mul (K12.mul (K12.pw x (BTn bs i)) (K12.pw x (BTn bs i))) x = K12.pw x (BTn bs (i + 1)) := by
 rcases gA bs i with ⟨_, e⟩ | ⟨h', _⟩
 ·rw [← K12.pw_add, BTn, e, Nat.two_mul]; rfl
 ·exact absurd h h'
theorem Ce (x : W12) (bs : List (BitVec 8)) (i : Nat) (h : ¬ ce bs i = 1#8) : K12.mul (K12.pw x (BTn bs i)) (K12.pw x (BTn bs i)) = K12.pw x (BTn bs (i + 1)) := by
 rcases gA bs i with ⟨h', _⟩ | ⟨_, e⟩
 ·exact absurd h' h
 ·rw [← K12.pw_add, BTn, e, Nat.two_mul, Nat.add_zero]
theorem nc (x : W12) (e : Option Addr) (cap : Nat) (bs : List (BitVec 8)) (hlen : bs.length ≤ 1000000) (w : World) (hw : Gt w) (hby : BytesAt w e bs) :
  Calls Tryz.prog 30 [bg x, .slice e bs.length cap].toArray w (fun r w' => r = .returned (bg (K12.pw x (BN bs bs.length))) ∧ Grow w w') := by
 have hGF : BOk Gt (pl w) := gt_low.plain hw
 refine bD (G := Gt) Tryz.func30 rfl rfl (Hp (pl w) []) (aJ (pl w) trivial ai) (ap hGF) ?_
 refine ab (E := EE [81]) ?_
 refine lb fun b2 => ?_
 refine la zv49 fun b4 => ?_
 refine aa ?_
 refine ab (E := EE [81]) ?_
 refine lc ent22 (gR) ?_
 refine la zv49 fun b5 => ?_
 refine rW6 ?_
 refine ao ?_
 refine ab (E := EE [81]) ?_
 refine rW6 ?_
 refine ck rfl rfl ent81 rfl rfl (fun w' hw' => (lq _ rfl w' (hGF.g _ _ _ hw')).mono fun e' w'' h => ?_)
 obtain ⟨c1, rfl, hg, h1, ho⟩ := h
 refine ⟨_, _, rfl, ap hGF, hw'.news ai hg [(33, c1, [.slice e bs.length cap], 22)] ?_ cH, ?_⟩
 ·intro n' b' c' t' hl
  rcases a6 hl with ⟨_, e⟩ | ⟨_, hl⟩
  ·cases e; exact ⟨h1, ho⟩
  ·cases hl
 clear hw' hg h1 ho
 refine aa ?_
 refine aj ?_
 refine cZ (fun _ => pl w) (fun _ _ => pl w) (fun _ => hGF) (fun _ _ => hGF) (fun _ => rfl) (fun _ _ => rfl) rfl rfl ent149 (oc c1 e cap bs hlen) (fun x hx => by obtain ⟨k, hk, rfl⟩ := List.mem_map.1 hx; rfl) rfl (fun k => [(2, b2, (((fe ((x).1.1).1 ++ fe ((x).1.1).2) ++ ((fe ((x).1.2.1).1 ++ fe ((x).1.2.1).2) ++ (fe ((x).1.2.2).1 ++ fe ((x).1.2.2).2))) ++ ((fe ((x).2.1).1 ++ fe ((x).2.1).2) ++ ((fe ((x).2.2.1).1 ++ fe ((x).2.2.1).2) ++ (fe ((x).2.2.2).1 ++ fe ((x).2.2.2).2)))).map U64, 49), (4, b4, (((fe 0 ++ fe 0) ++ ((fe 0 ++ fe 0) ++ (fe 0 ++ fe 0))) ++ ((fe 0 ++ fe 0) ++ ((fe 0 ++ fe 0) ++ (fe 0 ++ fe 0)))).map U64, 49), (5, b5, (((fe ((K12.pw x (BTn bs k)).1.1).1 ++ fe ((K12.pw x (BTn bs k)).1.1).2) ++ ((fe ((K12.pw x (BTn bs k)).1.2.1).1 ++ fe ((K12.pw x (BTn bs k)).1.2.1).2) ++ (fe ((K12.pw x (BTn bs k)).1.2.2).1 ++ fe ((K12.pw x (BTn bs k)).1.2.2).2))) ++ ((fe ((K12.pw x (BTn bs k)).2.1).1 ++ fe ((K12.pw x (BTn bs k)).2.1).2) ++ ((fe ((K12.pw x (BTn bs k)).2.2.1).1 ++ fe ((K12.pw x (BTn bs k)).2.2.1).2) ++ (fe ((K12.pw x (BTn bs k)).2.2.2).1 ++ fe ((K12.pw x (BTn bs k)).2.2.2).2)))).map U64, 49), (33, c1, [.slice e bs.length cap], 22)]) (fun _ _ _ => False) ⟨rfl, rfl, rfl, rfl, trivial⟩ (fun k _ w' h => ⟨ci (n := 33) rfl rfl w' h, hby.grow (h.below (fun _ h => h))⟩) ?_ ?_ (fun _ _ _ _ _ h => h.elim)
 ·intro k v hx R hR
  obtain ⟨hk, rfl⟩ := Gz bs k v hx
  refine aq (E := EE [81]) ?_
  refine rW6 ?_
  refine ⟨rfl, _, rfl, ?_⟩
  refine aj ?_
  refine ab (E := EE [81]) ?_
  refine rW6 ?_
  refine lc ent82 (fo _) ?_
  refine am 5 (hR (pl w) rfl hGF).2.1 rfl rfl rfl Tryz.sizeOf49 (by simp) (by simp) (ak _) rfl ?_
  refine aa ?_
  refine ab (E := EE [81]) ?_
  refine rW6 ?_
  refine bM rfl (fun hc => ?_) (fun hc => ?_)
  ·have hq : ce bs k = 1#8 := of_decide_eq_true hc
   refine aq (E := EE [81]) ?_
   refine rW6 ?_
   refine lc ent35 (mP _ _) ?_
   refine am 5 (hR (pl w) rfl hGF).2.1 rfl rfl rfl Tryz.sizeOf49 (by simp) (by simp) (ak _) rfl ?_
   refine aa ?_
   repeat (refine aO ?_)
   exact ⟨_, rfl, ⟨rfl, rfl, by rw [← Dg x bs k hq]; rfl, rfl, trivial⟩⟩
  ·have hq : ¬ ce bs k = 1#8 := of_decide_eq_false hc
   refine az ?_
   repeat (refine aO ?_)
   exact ⟨_, rfl, ⟨rfl, rfl, by rw [← Ce x bs k hq]; rfl, rfl, trivial⟩⟩
 ·intro D hD
  rw [qk, gw]
  refine ab (E := EE [81]) ?_
  refine rW6 ?_
  refine am 4 hD rfl rfl rfl Tryz.sizeOf49 (by simp) (by simp) (ak _) rfl ?_
  refine aa ?_
  refine rt ?_
  exact cn (.inl rfl) ai (av 4 rfl rfl rfl Tryz.isAgg49 Tryz.sizeOf49 (by simp) (fun w hw => ⟨rfl, ah hw⟩))
theorem s8 (x : W12) (e : Option Addr) (cap : Nat) (bs : List (BitVec 8)) (h : bs.length ≤ 1000) (w : World) (hw : Gt w) (hby : BytesAt w e bs) : Calls Tryz.prog 30 [bg x, .slice e bs.length cap].toArray w (fun r w' => r = .returned (bg (K12.pw x (BN bs bs.length))) ∧ Grow w w') := nc x e cap bs (by omega) w hw hby
end Q6
end
section
open Go.RowKit
theorem ent195 : ae Tryz.prog 195 := fun _ _ => by kernel_rfl
namespace Q6
attribute [local simp] aP bc aM aH aA a9 aF aE aG PLl bY ca N1l cb cf bZ aU ba aN aZ a7 bX
theorem rW7 {Q P : Prop} (k : Q) (h : Q → P := by intro k; (refine LY.run ?_); (repeat (first | refine bI rfl rfl rfl ?_ | refine bd rfl rfl rfl ?_ | ((refine xe rfl rfl ?_ rfl rfl ?_); (· simp)) | ((refine na hGF rfl rfl rfl ?_ ?_ (ak _) rfl ?_); (· simp); (· simp)) | ((refine Hk hGF rfl rfl rfl ?_ ?_ (ak _) rfl ?_); (· simp); (· simp)))); (first | refine cm ?_ | refine LY.mk ?_); exact k) : P := h k
theorem pW7 {Q P : Prop} (k : Q) (h : Q → P := by intro k; (refine xp ?_); (refine rW7 ?_); exact k) : P := h k
attribute [local simp] iS eS
theorem zv192 (w : World) : (zeroValue 192).run Tryz.prog w = .ok (.agg ((FM (FF fun _ => ze2) 6).map U64).toArray) w := by
 rw [ox]; exact (Tryz.zeroValue192 w).trans (by rfl)
abbrev TV6 (f : Nat → W2) : Value := .agg ((FM (FF f) 6).map U64).toArray
theorem Ci (f z : Nat → List (BitVec 64)) : ∀ i, i < 6 → tj f [0, 1, 2, 3, 4, 5] z i = f i := fun i hi => rD _ _ _ _ (.inl (by
 match i, hi with
 | 0, _ => decide
 | 1, _ => decide
 | 2, _ => decide
 | 3, _ => decide
 | 4, _ => decide
 | 5, _ => decide))
theorem yh (x : W12) : Pure Tryz.prog Gt 196 [bg x] (TV6 (p12 x)) := by
 refine a8 Tryz.func196 fun w hw hGF => ?_
 refine xp ?_
 refine lb fun b1 => ?_
 refine la zv192 fun b2 => ?_
 refine aa ?_
 refine xp ?_
 refine bP 0 rfl Tryz.underlying49 rfl Tryz.sizeOf47 (by decide) rfl rfl rfl ?_
 refine bP 0 rfl Tryz.underlying47 rfl Tryz.sizeOf33 (by decide) rfl rfl rfl ?_
 refine aV 1 _ rfl rfl Tryz.isAgg33 Tryz.sizeOf33 (by simp) (w8 m7) rfl rfl ?_
 refine bP 36 rfl Tryz.underlying49 rfl Tryz.sizeOf47 (by decide) rfl rfl rfl ?_
 refine bP 36 rfl Tryz.underlying47 rfl Tryz.sizeOf33 (by decide) rfl rfl rfl ?_
 refine aV 1 _ rfl rfl Tryz.isAgg33 Tryz.sizeOf33 (by simp) (qF (m := 36) (o := 0) (by simp) rfl m7) rfl rfl ?_
 refine bP 0 rfl Tryz.underlying49 rfl Tryz.sizeOf47 (by decide) rfl rfl rfl ?_
 refine bP 12 rfl Tryz.underlying47 rfl Tryz.sizeOf33 (by decide) rfl rfl rfl ?_
 refine aV 1 _ rfl rfl Tryz.isAgg33 Tryz.sizeOf33 (by simp) (w8 (B6 (by simp))) rfl rfl ?_
 refine bP 36 rfl Tryz.underlying49 rfl Tryz.sizeOf47 (by decide) rfl rfl rfl ?_
 refine bP 48 rfl Tryz.underlying47 rfl Tryz.sizeOf33 (by decide) rfl rfl rfl ?_
 refine aV 1 _ rfl rfl Tryz.isAgg33 Tryz.sizeOf33 (by simp) (qF (m := 36) (o := 12) (by simp) rfl (B6 (m := 12) (by simp))) rfl rfl ?_
 refine bP 0 rfl Tryz.underlying49 rfl Tryz.sizeOf47 (by decide) rfl rfl rfl ?_
 refine bP 24 rfl Tryz.underlying47 rfl Tryz.sizeOf33 (by decide) rfl rfl rfl ?_
 refine aV 1 _ rfl rfl Tryz.isAgg33 Tryz.sizeOf33 (by simp) (w8 (wc (m := 12) (n := 12) (by simp) (by simp) rfl)) rfl rfl ?_
 refine bP 36 rfl Tryz.underlying49 rfl Tryz.sizeOf47 (by decide) rfl rfl rfl ?_
 refine bP 60 rfl Tryz.underlying47 rfl Tryz.sizeOf33 (by decide) rfl rfl rfl ?_
 refine aV 1 _ rfl rfl Tryz.isAgg33 Tryz.sizeOf33 (by simp) (qF (m := 36) (o := 24) (by simp) rfl (wc (m := 12) (n := 12) (by simp) (by simp) rfl)) rfl rfl ?_
 refine ue (s := 12) (FF (p12 x)) (FF (p12 x)) [0, 1, 2, 3, 4, 5] rfl rfl rfl (fun i _ => aN _) Tryz.underlying192 Tryz.sizeOf33 zv192 (Ci _ _) rfl rfl ?_
 refine rW7 ?_
 refine rt ?_
 exact av 2 rfl rfl rfl Tryz.isAgg192 Tryz.sizeOf192 (by simp) (fun w hw => ⟨rfl, ah hw⟩)
theorem HN (f : Nat → W2) : Pure Tryz.prog Gt 176 [TV6 f] (bg (tq f)) := by
 refine a8 Tryz.func176 fun w hw hGF => ?_
 refine xp ?_
 refine lb fun b1 => ?_
 refine la zv49 fun b2 => ?_
 refine aa ?_
 refine xp ?_
 refine c8 (0) (12 * (0)) rfl rfl Tryz.underlying192 Tryz.sizeOf33 (by omega) (by omega) (by omega) rfl rfl ?_
 refine aV 1 ((fe (f 0).1 ++ fe (f 0).2).map U64) rfl rfl Tryz.isAgg33 Tryz.sizeOf33 (by simp) (dC _ (f 0) 6 (0) _ (by omega) rfl (rfl)) rfl rfl ?_
 refine c8 (2) (12 * (2)) rfl rfl Tryz.underlying192 Tryz.sizeOf33 (by omega) (by omega) (by omega) rfl rfl ?_
 refine aV 1 ((fe (f 2).1 ++ fe (f 2).2).map U64) rfl rfl Tryz.isAgg33 Tryz.sizeOf33 (by simp) (dC _ (f 2) 6 (2) _ (by omega) rfl (rfl)) rfl rfl ?_
 refine c8 (4) (12 * (4)) rfl rfl Tryz.underlying192 Tryz.sizeOf33 (by omega) (by omega) (by omega) rfl rfl ?_
 refine aV 1 ((fe (f 4).1 ++ fe (f 4).2).map U64) rfl rfl Tryz.isAgg33 Tryz.sizeOf33 (by simp) (dC _ (f 4) 6 (4) _ (by omega) rfl (rfl)) rfl rfl ?_
 refine dN hH rfl rfl rfl (by simp) (by simp) (by simp) rfl rfl ?_
 refine c8 (1) (12 * (1)) rfl rfl Tryz.underlying192 Tryz.sizeOf33 (by omega) (by omega) (by omega) rfl rfl ?_
 refine aV 1 ((fe (f 1).1 ++ fe (f 1).2).map U64) rfl rfl Tryz.isAgg33 Tryz.sizeOf33 (by simp) (dC _ (f 1) 6 (1) _ (by omega) rfl (rfl)) rfl rfl ?_
 refine c8 (3) (12 * (3)) rfl rfl Tryz.underlying192 Tryz.sizeOf33 (by omega) (by omega) (by omega) rfl rfl ?_
 refine aV 1 ((fe (f 3).1 ++ fe (f 3).2).map U64) rfl rfl Tryz.isAgg33 Tryz.sizeOf33 (by simp) (dC _ (f 3) 6 (3) _ (by omega) rfl (rfl)) rfl rfl ?_
 refine c8 (5) (12 * (5)) rfl rfl Tryz.underlying192 Tryz.sizeOf33 (by omega) (by omega) (by omega) rfl rfl ?_
 refine aV 1 ((fe (f 5).1 ++ fe (f 5).2).map U64) rfl rfl Tryz.isAgg33 Tryz.sizeOf33 (by simp) (dC _ (f 5) 6 (5) _ (by omega) rfl (rfl)) rfl rfl ?_
 refine dN hH rfl rfl rfl (by simp) (by simp) (by simp) rfl rfl ?_
 refine fM sp rfl rfl (by simp) (by simp) rfl rfl ?_
 refine rW7 ?_
 refine rt ?_
 exact av 2 rfl rfl rfl Tryz.isAgg49 Tryz.sizeOf49 (by simp) (fun w hw => ⟨rfl, ah hw⟩)
theorem jW (x : W12) (w : World) (hw : Gt w) : Calls Tryz.prog 175 [bg x].toArray w (fun e w' => ∃ b1, e = .returned (.func (.func 195) #[] #[.pointer (some ⟨b1, 0, none⟩)]) ∧ Grow w w' ∧ w.heap.size ≤ b1 ∧ OwnB w' b1 ((((fe (x.1.1).1 ++ fe (x.1.1).2) ++ ((fe (x.1.2.1).1 ++ fe (x.1.2.1).2) ++ (fe (x.1.2.2).1 ++ fe (x.1.2.2).2))) ++ ((fe (x.2.1).1 ++ fe (x.2.1).2) ++ ((fe (x.2.2.1).1 ++ fe (x.2.2.1).2) ++ (fe (x.2.2.2).1 ++ fe (x.2.2.2).2)))).map U64) 49) := by
 have hGF : BOk Gt (pl w) := gt_low.plain hw
 refine aB (G := Gt) Tryz.func175 rfl rfl (Hp (pl w) []) (aJ (pl w) trivial ai) (ap hGF) ?_
 refine xp ?_
 refine lb fun b1 => ?_
 refine rW7 ?_
 refine xp ?_
 refine eQ rfl rfl rfl rfl ?_
 refine rW7 ?_
 refine rt ?_
 exact a5 rfl rfl (fun w hw => ⟨b1, rfl, ah hw, (hw.own 1 b1 _ _ rfl).2.elim id False.elim, (hw.own 1 b1 _ _ rfl).1⟩)
def sA (x : W12) : List (List Value) := (List.range 6).map fun (k : Nat) => [I (k : Int), EV2 (p12 x k)]
theorem kW (x : W12) : (sA x).length = 6 := by rw [sA, List.length_map, List.length_range]
theorem ol (x : W12) (k : Nat) (h : k < 6) : (sA x)[k]? = some [I (k : Int), EV2 (p12 x k)] := by
 rw [sA, List.getElem?_map, List.getElem?_range h]; rfl
theorem zx (x : W12) (k : Nat) (v : List Value) (h : (sA x)[k]? = some v) : k < 6 ∧ v = [I (k : Int), EV2 (p12 x k)] := by
 have hk : k < 6 := by
  rcases Nat.lt_or_ge k 6 with hk | hk
  ·exact hk
  ·rw [List.getElem?_eq_none (by rw [kW]; exact hk)] at h; cases h
 exact ⟨hk, (Option.some.inj ((ol x k hk).symm.trans h)).symm⟩
def Af (bb : Nat) (x : W12) : Cls := fun w => w.rangeAt bb 0 ((((fe (x.1.1).1 ++ fe (x.1.1).2) ++ ((fe (x.1.2.1).1 ++ fe (x.1.2.1).2) ++ (fe (x.1.2.2).1 ++ fe (x.1.2.2).2))) ++ ((fe (x.2.1).1 ++ fe (x.2.1).2) ++ ((fe (x.2.2.1).1 ++ fe (x.2.2.1).2) ++ (fe (x.2.2.2).1 ++ fe (x.2.2.2).2)))).map U64)
theorem BX (bb : Nat) (x : W12) : eu Tryz.prog Gt 195 [.pointer (some ⟨bb, 0, none⟩)] (sA x) (Af bb x) := by
 intro l J Jx hJ hJx hRd hGx hY w hj
 have okJ : ∀ k, BOk Gt (Bi w (fun Y => J Y k)) := fun k => ⟨fun _ _ _ h => (hRd _ _ _ h.rid).1, hJ k⟩
 have okX : ∀ k, BOk Gt (Bi w (fun Y => Jx Y k)) := fun k => ⟨fun _ _ _ h => hGx _ _ _ h.rid, hJx k⟩
 have c1 : ∀ k L w', Hp (Bi w (fun Y => J Y k)) L w' → Af bb x w' := fun k L w' h => (hRd _ _ _ h.rid).2
 refine aB (G := Gt) Tryz.func195 rfl rfl (Hp (Bi w (fun Y => J Y 0)) []) (aJ (Bi w _) hj (hJ 0)) (ap (okJ 0)) ?_
 refine xp ?_
 refine dO rfl Tryz.isAgg49 Tryz.sizeOf49 (by simp) (fun w h => c1 _ _ w h) rfl rfl ?_
 refine lc ent196 (yh _) ?_
 refine rW7 ?_
 refine aj ?_
 refine dV (ι := { i : Nat // i ≤ 6 }) (fun y => [(0, .func (.yield l) #[] #[]), (1, .pointer (some ⟨bb, 0, none⟩)), (6, TV6 (p12 x)), (7, I (y.1 : Int))]) (fun y => Bi w (fun Y => J Y y.1)) (fun y => []) (fun y => 6 - y.1) ⟨0, Nat.zero_le _⟩ (fun _ => okJ _) rfl ⟨rfl, rfl, rfl, rfl, trivial⟩ trivial ?_
 rintro ⟨i, hi⟩
 dsimp only
 refine xp ?_
 refine ac rfl rfl (fun _ => rfl) (fun _ => aQ _ _ _) rfl rfl ?_
 refine aa ?_
 refine ao ?_
 refine bM rfl (fun hc => ?_) (fun hc => ?_)
 ·have hi2 : i < 6 := by simp at hc; omega
  refine az ?_
  refine ao ?_
  refine aj ?_
  refine pW7 ?_
  refine qW (FF (p12 x)) (i) rfl rfl Tryz.underlying192 Tryz.sizeOf33 Tryz.isAgg33 (by omega) (by omega) (aN _) rfl rfl ?_
  refine bO 4 (okJ _) zv33 rfl rfl ?_
  intro b4
  refine rW7 ?_
  refine am 4 (okJ _) rfl rfl rfl Tryz.sizeOf33 (by simp) (by simp) (ak _) rfl ?_
  refine aa ?_
  refine pW7 ?_
  refine db (hY.b (k := i) (ol x i (by omega)) w) (okJ _) (okX _) rfl rfl rfl rfl rfl ?_ ?_
  ·skip
   refine bx rfl (fun _ => bf _) rfl rfl ?_
   refine aa ?_
   refine bl rfl ?_
   refine az ?_
   refine aq (E := EE []) ?_
   refine ac rfl rfl (fun _ => rfl) (fun _ => aI _ _ _ (by unfold inI; omega)) rfl rfl ?_
   refine rW7 ?_
   repeat (refine aO ?_)
   refine bi ?_
   exact ⟨rfl, ⟨i + 1, by omega⟩, _, by show 6 - (i + 1) < 6 - i; omega, rfl, ⟨rfl, rfl, rfl, rfl, trivial⟩, trivial⟩
  ·skip
   refine bx rfl (fun _ => bf _) rfl rfl ?_
   refine aa ?_
   refine bV rfl ?_
   refine rt ?_
   repeat (first | refine cO ?_ | refine bJ ?_ | refine cR rfl ?_ | refine aY ?_ | refine aX ?_)
   exact cF rfl (fun w hw => ⟨⟨_, rfl⟩, .inr ⟨_, bG (hJx _) hw.rid⟩⟩)
 ·obtain rfl : i = 6 := by simp at hc; omega
  refine aW ?_
  repeat (first | refine cO ?_ | refine bJ ?_ | refine cR rfl ?_ | refine aY ?_ | refine aX ?_)
  refine cS rfl (fun w hw => ⟨⟨_, rfl⟩, .inl ?_⟩)
  have := bG (hJ _) hw.rid
  rw [kW]
  exact this
end Q6
end
section
open Go.RowKit
namespace Q6
attribute [local simp] aP bc aM aH aA a9 aF aE aG PLl bY ca N1l cb cf bZ aU ba aN aZ a7 bX
theorem eX {Q P : Prop} (k : Q) (h : Q → P := by intro k; (refine LY.run ?_); (repeat (first | refine bI rfl rfl rfl ?_ | refine bd rfl rfl rfl ?_ | ((refine xe rfl rfl ?_ rfl rfl ?_); (· simp)) | ((refine oe rfl rfl ?_ rfl rfl ?_); (· simp)) | ((refine pF rfl rfl ?_ rfl rfl ?_); (· simp)) | ((refine Gm rfl rfl ?_ rfl rfl ?_); (· simp)) | ((refine zj hGF rfl rfl rfl ?_ ?_ (ak _) rfl ?_); (· simp); (· simp)) | ((refine qI hGF rfl rfl rfl ?_ ?_ (ak _) rfl ?_); (· simp); (· simp)) | refine gh rfl rfl rfl rfl ?_ | refine bT (f := 107) rfl rfl ent107 (u7) rfl rfl ?_ | refine bT (f := 171) rfl rfl ent171 (tN _) rfl rfl ?_)); (first | refine cm ?_ | refine LY.mk ?_); exact k) : P := h k
attribute [local simp] iS eS
theorem ot (e : Option Addr) (cap : Nat) (w : World) (hw : Gt w) (hby : BytesAt w e SXB) :
  Calls Tryz.prog 46 [.slice e SXB.length cap].toArray w (fun r w' => r = .returned (.tuple #[EV SR, .bool (FO SXB)]) ∧ Grow w w') := by
 have h := eM e cap SXB w hw hby
 rw [CX] at h
 exact h
theorem GF {m : Nat} (h : m % 2 = 1) (y : W2) (k : Nat) : frq y m k = ml2 (cj2 y) (pw2 (GV m) k) := by rw [frq, cjn, if_pos h]
theorem Fc {m : Nat} (h : ¬ m % 2 = 1) (y : W2) (k : Nat) : frq y m k = ml2 y (pw2 (GV m) k) := by rw [frq, cjn, if_neg h]
theorem GV_s (i : Nat) : GV (i + 1) = ml2 (cj2 (GV i)) ((SR, -SR) : W2) := by rw [Fb]; rfl
theorem uC (n : Nat) (hn : n ≤ 1000) : Pure Tryz.prog Gt 174 [I (n : Int)] (EV2 (GV n)) := by
 refine a8 Tryz.func174 fun w hw hGF => ?_
 refine ab (E := EE [1000022]) ?_
 refine la zv33 fun b2 => ?_
 refine aa ?_
 refine ab (E := EE [1000022]) ?_
 refine pf 8 SXB hGF rfl rfl rfl (by decide) (by decide) Tryz.underlying22 Tryz.sizeOf5 Tryz.zeroValue5 rfl rfl ?_
 intro b8
 refine qe 8 rfl hGF rfl rfl Tryz.underlying22 Tryz.underlying5 rfl rfl ?_
 refine bE rfl rfl ent46 (fun w' hC hG => ot _ _ w' hG (BytesAt.range (hC.own 8 b8 _ _ rfl).1.range)) rfl rfl ?_
 refine eX ?_
 refine la zv27 fun b3 => ?_
 refine eX ?_
 refine bU (E := EE [1000022, 2999999]) [0, 1, 2, 3] [⟨4, 5, 33, (fe 0 ++ fe 0).map U64⟩] [5] bq rfl (by kernel_rfl) (by kernel_rfl) (by kernel_rfl) (by kernel_rfl) (by kernel_rfl) (by kernel_rfl) (by decide) (by intro x hx; simp only [List.mem_cons, List.not_mem_nil, or_false] at hx; subst hx; exact bz rfl zv33 rfl) ?_
 refine eX ?_
 refine lc ent100 (lJ _) ?_
 refine fM v9 rfl rfl (by simp) (by simp) rfl rfl ?_
 refine aa ?_
 refine ⟨_, _, rfl, hGF, by intro x hx; simp only [List.mem_cons, List.not_mem_nil, or_false] at hx; subst hx; rfl, by intro x hx; simp only [List.mem_cons, List.not_mem_nil, or_false] at hx; subst hx; rfl, fun adr => ?_⟩
 refine eX ?_
 refine ab (E := EE [1000022]) ?_
 refine eX ?_
 refine la zv33 fun b6 => ?_
 refine eX ?_
 refine ao ?_
 refine ab (E := EE [1000022]) ?_
 refine eX ?_
 refine aj ?_
 refine cy (ι := { i : Nat // i ≤ n }) (fun y => [(0, I (n : Int)), (2, .pointer (some ⟨b2, 0, none⟩)), (3, .pointer (some ⟨b3, 0, none⟩)), (5, .pointer (some ⟨(adr 5), 0, none⟩)), (6, .pointer (some ⟨b6, 0, none⟩)), (18, I (n : Int)), (19, I (y.1 : Int))]) (fun y => [(2, b2, (fe 0 ++ fe 0).map U64, 33), (3, b3, (fe SR).map U64, 27), (5, adr 5, (fe SR ++ fe (-SR)).map U64, 33), (6, b6, (fe (GV y.1).1 ++ fe (GV y.1).2).map U64, 33)]) (fun y => n - y.1) ⟨0, Nat.zero_le _⟩ hGF ⟨rfl, rfl, rfl, rfl, rfl, rfl, rfl, trivial⟩ ⟨rfl, rfl, rfl, rfl, trivial⟩ ?_
 rintro ⟨i, hi⟩
 dsimp only
 refine ab (E := EE [1000022]) ?_
 refine ac rfl rfl (fun _ => rfl) (fun _ => aQ _ _ _) rfl rfl ?_
 refine aa ?_
 refine ao ?_
 refine bM rfl (fun hc => ?_) (fun hc => ?_)
 ·simp only [decide_eq_true_eq] at hc
  refine az ?_
  refine ao ?_
  refine aj ?_
  refine dB (E := EE [1000022]) bq (by kernel_rfl) (by kernel_rfl) (by kernel_rfl) ?_
  refine eX ?_
  refine aD rfl rfl ent130 (k4 (cj2 (GV i)) ((SR, -SR) : W2)) rfl rfl ?_
  refine eX ?_
  refine aq (E := EE [1000022]) ?_
  refine ac rfl rfl (fun _ => rfl) (fun _ => aI _ _ _ (by unfold inI; omega)) rfl rfl ?_
  refine eX ?_
  repeat (refine aO ?_)
  refine bi ?_
  exact ⟨rfl, ⟨i + 1, by omega⟩, _, by show n - (i + 1) < n - i; omega, rfl, ⟨rfl, rfl, rfl, rfl, rfl, rfl, rfl, trivial⟩, ⟨rfl, rfl, rfl, by rw [GV_s i]; rfl, trivial⟩⟩
 ·obtain rfl : n = i := by simp at hc; omega
  refine aW ?_
  refine ab (E := EE [1000022]) ?_
  refine eX ?_
  refine rt ?_
  exact av 2 rfl rfl rfl Tryz.isAgg33 Tryz.sizeOf33 (by simp) (fun w hw => ⟨rfl, ah hw⟩)
theorem rq (x : W12) (n : Int) : Pure Tryz.prog Gt 132 [bg x, I n] (bg (fO x (n % 12).toNat)) := by
 intro w hw
 have hGF : BOk Gt (pl w) := gt_low.plain hw
 obtain ⟨m, hm⟩ : ∃ m : Nat, (n % 12).toNat = m := ⟨_, rfl⟩
 have hm6 : m < 12 := by omega
 rw [hm, su]
 refine bD (G := Gt) Tryz.func132 rfl rfl (Hp (pl w) []) (aJ (pl w) trivial ai) (ap hGF) ?_
 refine ab (E := EE [175]) ?_
 refine lb fun b2 => ?_
 refine gi 3 hGF rfl rfl rfl ?_
 intro b3
 refine la zv49 fun b4 => ?_
 refine aa ?_
 refine ab (E := EE [175]) ?_
 refine bR 3 rfl rfl rfl Tryz.isAgg3 rfl rfl ?_
 refine ac (v := I (n.tmod 12)) rfl rfl (fun _ => rfl) (fun _ => ee _ _ _ (by decide)) rfl rfl ?_
 refine ac (v := I (n.tmod 12 + 12)) rfl rfl (fun _ => rfl) (fun _ => aI _ _ _ (vu n)) rfl rfl ?_
 refine ac (v := I (m : Int)) rfl rfl (fun _ => rfl) (fun _ => (ee _ _ _ (by decide)).trans (by rw [Gn, hm])) rfl rfl ?_
 refine cx 3 hGF rfl rfl rfl Tryz.sizeOf3 rfl (by show 0 < 1; decide) rfl ?_
 refine aa ?_
 refine ab (E := EE [175]) ?_
 refine bR 3 rfl rfl rfl Tryz.isAgg3 rfl rfl ?_
 refine aD rfl rfl ent174 (uC m (by omega)) rfl rfl ?_
 refine eX ?_
 refine la zv33 fun b5 => ?_
 refine la zv33 fun b6 => ?_
 refine eX ?_
 refine ab (E := EE [175]) ?_
 refine la zv192 fun b7 => ?_
 refine aa ?_
 refine ao ?_
 refine ab (E := EE [175]) ?_
 refine eX ?_
 refine ck rfl rfl ent175 rfl rfl (fun w' hw' => (jW x w' (hGF.g _ _ _ hw')).mono fun e' w'' h => ?_)
 obtain ⟨c1, rfl, hg, h1, ho⟩ := h
 refine ⟨_, _, rfl, ap hGF, hw'.news ai hg [(33, c1, (((fe (x.1.1).1 ++ fe (x.1.1).2) ++ ((fe (x.1.2.1).1 ++ fe (x.1.2.1).2) ++ (fe (x.1.2.2).1 ++ fe (x.1.2.2).2))) ++ ((fe (x.2.1).1 ++ fe (x.2.1).2) ++ ((fe (x.2.2.1).1 ++ fe (x.2.2.1).2) ++ (fe (x.2.2.2).1 ++ fe (x.2.2.2).2)))).map U64, 49)] ?_ cH, ?_⟩
 ·intro n' b' c' t' hl
  rcases a6 hl with ⟨_, e⟩ | ⟨_, hl⟩
  ·cases e; exact ⟨h1, ho⟩
  ·cases hl
 clear hw' hg h1 ho
 refine aa ?_
 refine aj ?_
 refine cZ (fun _ => pl w) (fun _ _ => pl w) (fun _ => hGF) (fun _ _ => hGF) (fun _ => rfl) (fun _ _ => rfl) rfl rfl ent195 (BX c1 x) (fun v hv => by obtain ⟨k, hk, rfl⟩ := List.mem_map.1 hv; rfl) rfl (fun k => [(2, b2, (((fe (x.1.1).1 ++ fe (x.1.1).2) ++ ((fe (x.1.2.1).1 ++ fe (x.1.2.1).2) ++ (fe (x.1.2.2).1 ++ fe (x.1.2.2).2))) ++ ((fe (x.2.1).1 ++ fe (x.2.1).2) ++ ((fe (x.2.2.1).1 ++ fe (x.2.2.1).2) ++ (fe (x.2.2.2).1 ++ fe (x.2.2.2).2)))).map U64, 49), (3, b3, [I (m : Int)], 3), (4, b4, (((fe 0 ++ fe 0) ++ ((fe 0 ++ fe 0) ++ (fe 0 ++ fe 0))) ++ ((fe 0 ++ fe 0) ++ ((fe 0 ++ fe 0) ++ (fe 0 ++ fe 0)))).map U64, 49), (5, b5, (fe (GV m).1 ++ fe (GV m).2).map U64, 33), (6, b6, (fe (pw2 (GV m) k).1 ++ fe (pw2 (GV m) k).2).map U64, 33), (7, b7, (FM (FF (fun j => if j < k then frq (p12 x j) m j else ze2)) 6).map U64, 192), (33, c1, (((fe (x.1.1).1 ++ fe (x.1.1).2) ++ ((fe (x.1.2.1).1 ++ fe (x.1.2.1).2) ++ (fe (x.1.2.2).1 ++ fe (x.1.2.2).2))) ++ ((fe (x.2.1).1 ++ fe (x.2.1).2) ++ ((fe (x.2.2.1).1 ++ fe (x.2.2.1).2) ++ (fe (x.2.2.2).1 ++ fe (x.2.2.2).2)))).map U64, 49)]) (fun _ _ _ => False) ⟨rfl, rfl, rfl, rfl, rfl, congrArg (fun l => some (b7, l, _)) (congrArg (List.map U64) (ow fun j _ => (if_neg (Nat.not_lt_zero j)).symm)), rfl, trivial⟩ (fun k _ w' h => cK (n := 33) rfl w' h) ?_ ?_ (fun _ _ _ _ _ h => h.elim)
 ·intro k v hx R hR
  obtain ⟨hk, rfl⟩ := zx x k v hx
  refine ab (E := EE [175]) ?_
  refine eX ?_
  refine aq (E := EE [175]) ?_
  refine bO 9 (hR (pl w) rfl hGF).1 zv33 rfl rfl ?_
  intro b9
  refine am 9 (hR (pl w) rfl hGF).1 rfl rfl rfl Tryz.sizeOf33 (by simp) (by simp) (ak _) rfl ?_
  refine aa ?_
  refine ⟨rfl, _, rfl, ?_⟩
  refine aj ?_
  refine ao ?_
  refine ab (E := EE [175]) ?_
  refine bR 3 rfl rfl rfl Tryz.isAgg3 rfl rfl ?_
  refine ac (v := I ((m % 2 : Nat) : Int)) rfl rfl (fun _ => rfl) (fun _ => ee _ _ _ (by decide)) rfl rfl ?_
  refine ac rfl rfl (fun _ => rfl) (fun _ => sy _ _ _) rfl rfl ?_
  refine aa ?_
  refine bM rfl (fun hc => ?_) (fun hc => ?_)
  ·have hp : m % 2 = 1 := by simp at hc; omega
   refine aq (E := EE [175]) ?_
   refine eX ?_
   refine am 9 (hR (pl w) rfl hGF).2.1 rfl rfl rfl Tryz.sizeOf33 (by simp) (by simp) (ak _) rfl ?_
   refine aa ?_
   refine ab (E := EE [175]) ?_
   refine eX ?_
   refine lc ent130 (k4 _ _) ?_
   refine c8 (k) (12 * (k)) rfl rfl Tryz.underlying192 Tryz.sizeOf33 (by omega) (by omega) (by omega) rfl rfl ?_
   refine gC 7 ((FM (FF (fun j => if j < k + 1 then frq (p12 x j) m j else ze2)) 6).map U64) (hR (pl w) rfl hGF).2.1 rfl rfl rfl Tryz.sizeOf33 (by simp) (ak _) (by simp; omega) (mr _ _ (ml2 (cj2 (p12 x k)) (pw2 (GV m) k)) 6 (k) _ (by omega) rfl (fun j _ => by rw [← GF hp]; exact pz (fun j => frq (p12 x j) m j) (fun _ => ze2) k j)) rfl ?_
   refine aa ?_
   refine aq (E := EE [175]) ?_
   refine eX ?_
   refine lc ent130 (k4 _ _) ?_
   refine am 6 (hR (pl w) rfl hGF).2.1 rfl rfl rfl Tryz.sizeOf33 (by simp) (by simp) (ak _) rfl ?_
   refine aa ?_
   repeat (refine aO ?_)
   exact ⟨_, rfl, ⟨rfl, rfl, rfl, rfl, rfl, rfl, rfl, trivial⟩⟩
  ·have hp : ¬ m % 2 = 1 := by simp at hc; omega
   refine az ?_
   refine ab (E := EE [175]) ?_
   refine eX ?_
   refine lc ent130 (k4 _ _) ?_
   refine c8 (k) (12 * (k)) rfl rfl Tryz.underlying192 Tryz.sizeOf33 (by omega) (by omega) (by omega) rfl rfl ?_
   refine gC 7 ((FM (FF (fun j => if j < k + 1 then frq (p12 x j) m j else ze2)) 6).map U64) (hR (pl w) rfl hGF).2.1 rfl rfl rfl Tryz.sizeOf33 (by simp) (ak _) (by simp; omega) (mr _ _ (ml2 (p12 x k) (pw2 (GV m) k)) 6 (k) _ (by omega) rfl (fun j _ => by rw [← Fc hp]; exact pz (fun j => frq (p12 x j) m j) (fun _ => ze2) k j)) rfl ?_
   refine aa ?_
   refine aq (E := EE [175]) ?_
   refine eX ?_
   refine lc ent130 (k4 _ _) ?_
   refine am 6 (hR (pl w) rfl hGF).2.1 rfl rfl rfl Tryz.sizeOf33 (by simp) (by simp) (ak _) rfl ?_
   refine aa ?_
   repeat (refine aO ?_)
   exact ⟨_, rfl, ⟨rfl, rfl, rfl, rfl, rfl, rfl, rfl, trivial⟩⟩
 ·intro D hD
  rw [kW]
  refine ab (E := EE [175]) ?_
  refine eX ?_
  refine lc ent176 (HN _) ?_
  refine am 4 hD rfl rfl rfl Tryz.sizeOf49 (by simp) (by simp) (ak _) rfl ?_
  refine aa ?_
  refine rt ?_
  exact cn (.inl rfl) ai (av 4 rfl rfl rfl Tryz.isAgg49 Tryz.sizeOf49 (by simp) (fun w hw => ⟨e12 rfl rfl, ah hw⟩))
end Q6
end
end Go.Proofs.YtpnpiblphnpfiaaGreatDoor
