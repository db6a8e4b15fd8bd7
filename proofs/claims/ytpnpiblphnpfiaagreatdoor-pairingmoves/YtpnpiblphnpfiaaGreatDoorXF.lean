/-
 Elements of fp12 as values; what the laws of layer 7 share.
 The walks of package fp12.
 The walks of package fp12: powers.
 The walks of package fp12: its parts.
 The walks of package fp12: powers of p.
-/
import Derived.Test.YtpnpiblphnpfiaaGreatDoorXE
import Derived.Test.YtpnpiblphnpfiaaGreatDoorX3
import Derived.Test.YtpnpiblphnpfiaaGreatDoorXJ
import Derived.Test.YtpnpiblphnpfiaaGreatDoorX5
set_option maxRecDepth 100000
set_option maxHeartbeats 1000000
namespace Go.Proofs.YtpnpiblphnpfiaaGreatDoor
section
open Go.RowKit
theorem ent132 : ae Tryz.prog 132 := fun _ _ => by kernel_rfl
theorem ent174 : ae Tryz.prog 174 := fun _ _ => by kernel_rfl
theorem ent35 : ae Tryz.prog 35 := fun _ _ => by kernel_rfl
theorem ent196 : ae Tryz.prog 196 := fun _ _ => by kernel_rfl
theorem ent26 : ae Tryz.prog 26 := fun _ _ => by kernel_rfl
theorem ent176 : ae Tryz.prog 176 := fun _ _ => by kernel_rfl
theorem ent22 : ae Tryz.prog 22 := fun _ _ => by kernel_rfl
theorem ent134 : ae Tryz.prog 134 := fun _ _ => by kernel_rfl
theorem ent82 : ae Tryz.prog 82 := fun _ _ => by kernel_rfl
theorem ent33 : ae Tryz.prog 33 := fun _ _ => by kernel_rfl
theorem ent41 : ae Tryz.prog 41 := fun _ _ => by kernel_rfl
theorem ent175 : ae Tryz.prog 175 := fun _ _ => by kernel_rfl
namespace Q6
attribute [local simp] aN aZ aI aF aw aX aC aB aD PLl bX bZ N1l ca bU cb aP a5 aJ aU aV bM
attribute [local simp] iM ez
abbrev bu (x : W12) : Value := .agg ((((fe (x.1.1).1 ++ fe (x.1.1).2) ++ ((fe (x.1.2.1).1 ++ fe (x.1.2.1).2) ++ (fe (x.1.2.2).1 ++ fe (x.1.2.2).2))) ++ ((fe (x.2.1).1 ++ fe (x.2.1).2) ++ ((fe (x.2.2.1).1 ++ fe (x.2.2.1).2) ++ (fe (x.2.2.2).1 ++ fe (x.2.2.2).2)))).map U64).toArray
theorem zv49 (w : World) : (zeroValue 49).run Tryz.prog w = .ok (.agg ((((fe 0 ++ fe 0) ++ ((fe 0 ++ fe 0) ++ (fe 0 ++ fe 0))) ++ ((fe 0 ++ fe 0) ++ ((fe 0 ++ fe 0) ++ (fe 0 ++ fe 0)))).map U64).toArray) w := by rw [jI]; exact (Tryz.zeroValue49 w).trans (by rfl)
theorem qY : Two Tryz.prog 49 ⟨ "C0", 47, 0, false, "", "", 0⟩ ⟨ "C1", 47, 36, false, "", "", 288⟩ 36 36 ((fe 0 ++ fe 0) ++ ((fe 0 ++ fe 0) ++ (fe 0 ++ fe 0))) ((fe 0 ++ fe 0) ++ ((fe 0 ++ fe 0) ++ (fe 0 ++ fe 0))) := ⟨Tryz.underlying49, rfl, rfl, Tryz.sizeOf47, Tryz.sizeOf47, zv49, by simp, by simp⟩
theorem e12 {a b a' b' : W6} (h1 : a = a') (h2 : b = b') : Ending.returned (bu (a, b)) = .returned (bu (a', b')) := by rw [h1, h2]
theorem qG {x y : W12} (h : x.1 = y.1) : decide (x.2 = y.2) = decide (x = y) := decide_eq_decide.2 ⟨fun e => Prod.ext h e, fun e => by rw [e]⟩
theorem rM {x y : W12} (h : ¬ x.1 = y.1) : false = decide (x = y) := (decide_eq_false fun e => h (by rw [e])).symm
def p12 (x : W12) : Nat → W2
 | 0 => x.1.1
 | 1 => x.2.1
 | 2 => x.1.2.1
 | 3 => x.2.2.1
 | 4 => x.1.2.2
 | _ => x.2.2.2
def q12 : Sh W12 := q6.two q6 6
theorem V12 (x : W12) : bu x = dn rid (.inl [x.1.1.1, x.1.1.2, x.1.2.1.1, x.1.2.1.2, x.1.2.2.1, x.1.2.2.2, x.2.1.1, x.2.1.2, x.2.2.1.1, x.2.2.1.2, x.2.2.2.1, x.2.2.2.2]) := by
 show Value.agg _ = Value.agg _
 rw [clv, show cel [x.1.1.1, x.1.1.2, x.1.2.1.1, x.1.2.1.2, x.1.2.2.1, x.1.2.2.2, x.2.1.1, x.2.1.2, x.2.2.1.1, x.2.2.1.2, x.2.2.2.1, x.2.2.2.2] = fe x.1.1.1 ++ (fe x.1.1.2 ++ (fe x.1.2.1.1 ++ (fe x.1.2.1.2 ++ (fe x.1.2.2.1 ++ (fe x.1.2.2.2 ++ (fe x.2.1.1 ++ (fe x.2.1.2 ++ (fe x.2.2.1.1 ++ (fe x.2.2.1.2 ++ (fe x.2.2.2.1 ++ fe x.2.2.2.2)))))))))) from rfl]
 simp only [List.append_assoc]
end Q6
end
section
open Go.RowKit
namespace Q6
attribute [local simp] aN aZ aI aF aw aX aC aB aD PLl bX bZ N1l ca bU cb aP a5 aJ aU aV bM
theorem rW2 {Q P : Prop} (k : Q) (h : Q → P := by intro k; (refine LY.run ?_); (repeat (first | refine bK rfl rfl rfl ?_ | refine bg rfl rfl rfl ?_ | ((refine zl rfl rfl ?_ rfl rfl rfl rfl ?_); (· simp)) | ((refine x7 rfl rfl ?_ ?_ rfl rfl rfl rfl ?_); (· simp); (· simp)) | ((refine GS rfl rfl ?_ rfl rfl ?_); (· simp)) | ((refine Et hGF rfl rfl rfl ?_ ?_ (ak _) rfl ?_); (· simp); (· simp)) | ((refine o0 hGF rfl rfl rfl ?_ ?_ (ak _) rfl ?_); (· simp); (· simp)) | refine bQ (f := 90) rfl rfl ent90 (uB _ _) rfl rfl ?_ | refine bQ (f := 91) rfl rfl ent91 (uJ _ _) rfl rfl ?_ | refine bQ (f := 93) rfl rfl ent93 (wu _ _) rfl rfl ?_ | refine bQ (f := 92) rfl rfl ent92 (k6v _) rfl rfl ?_ | refine bQ (f := 177) rfl rfl ent177 (kP _) rfl rfl ?_ | refine fN rfl rfl rfl rfl rfl ?_)); (first | refine ci ?_ | refine LY.mk ?_); exact k) : P := h k
theorem pW2 {Q P : Prop} (k : Q) (h : Q → P := by intro k; (refine xp ?_); (refine rW2 ?_); exact k) : P := h k
attribute [local simp] iM ez
theorem iF  : Pure Tryz.prog Gt 22 [] (bu K12.one) := (bx rfl (V12 _) (pE TO51 Tryz.func22 [] (.inl (.inl [K12.one.1.1.1, K12.one.1.1.2, K12.one.1.2.1.1, K12.one.1.2.1.2, K12.one.1.2.2.1, K12.one.1.2.2.2, K12.one.2.1.1, K12.one.2.1.2, K12.one.2.2.1.1, K12.one.2.2.1.2, K12.one.2.2.2.1, K12.one.2.2.2.2])) (let t0 := K6.one; (.inl (.inl [t0.1.1, t0.1.2, t0.2.1.1, t0.2.1.2, t0.2.2.1, t0.2.2.2, 0, 0, 0, 0, 0, 0]), [])) [] (by kernel_rfl) aR rfl))
theorem wp {f : Nat} {g : W12} (en : ae Tryz.prog f) (h : Pure Tryz.prog Gt f [] (bu g)) : Snd Tryz.prog Gt f (c0 q12.rd g) := nE q12.rd en (bx rfl (V12 _).symm h)
def TO52 : Tb Tryz.prog Gt := TO51.add (wp (g := K12.one) ent22 iF)
theorem fX (x y : W12) : Pure Tryz.prog Gt 33 [bu x, bu y] (.bool (decide (x = y))) := by
 intro w hw
 have hGF : BOk Gt (pl w) := gt_low.plain hw
 by_cases h : x.1 = y.1
 ·skip
  refine aE (G := Gt) Tryz.func33 rfl rfl (Hp (pl w) []) (aO (pl w) trivial ai) (ap hGF) ?_
  refine xp ?_
  refine lb fun b2 => ?_
  refine lb fun b3 => ?_
  refine rW2 ?_
  refine pW2 ?_
  refine cF true rfl rfl ent84 (jx _ _) (decide_eq_true h) rfl rfl ?_
  refine rW2 ?_
  refine lc ent84 (jx _ _) ?_
  refine rW2 ?_
  refine rt ?_
  exact a6 rfl rfl (fun w hw => ⟨rb (qG h), ah hw⟩)
 ·skip
  refine aE (G := Gt) Tryz.func33 rfl rfl (Hp (pl w) []) (aO (pl w) trivial ai) (ap hGF) ?_
  refine xp ?_
  refine lb fun b2 => ?_
  refine lb fun b3 => ?_
  refine rW2 ?_
  refine pW2 ?_
  refine cF false rfl rfl ent84 (jx _ _) (decide_eq_false h) rfl rfl ?_
  refine rW2 ?_
  refine aH rfl rfl rfl ?_
  refine aH rfl rfl rfl ?_
  refine aH rfl rfl rfl ?_
  refine aH rfl rfl rfl ?_
  refine aH rfl rfl rfl ?_
  refine rW2 ?_
  refine rt ?_
  exact a6 rfl rfl (fun w hw => ⟨rb (rM h), ah hw⟩)
theorem fl {f : Nat} {g : W12 → W12 → Bool} (en : ae Tryz.prog f) (h : ∀ a b, Pure Tryz.prog Gt f [bu a, bu b] (.bool (g a b))) : Snd Tryz.prog Gt f (c2 q12.ag q12.ag rdB g) := dS q12.ag q12.ag rdB en (fun a b => bx (l2 (V12 _).symm (V12 _).symm) rfl (h a b))
def TO53 : Tb Tryz.prog Gt := TO52.add (fl (g := fun x y => decide (x = y)) ent33 fX)
theorem iT (x : W12) : Pure Tryz.prog Gt 26 [bu x] (.bool (decide (x = K12.zero))) := by
 intro w hw
 have hGF : BOk Gt (pl w) := gt_low.plain hw
 by_cases h : x.1 = K6.zero
 ·skip
  refine aE (G := Gt) Tryz.func26 rfl rfl (Hp (pl w) []) (aO (pl w) trivial ai) (ap hGF) ?_
  refine xp ?_
  refine lb fun b1 => ?_
  refine rW2 ?_
  refine pW2 ?_
  refine cF true rfl rfl ent76 (ik _) (decide_eq_true h) rfl rfl ?_
  refine rW2 ?_
  refine lc ent76 (ik _) ?_
  refine rW2 ?_
  refine rt ?_
  exact a6 rfl rfl (fun w hw => ⟨rb (qG (y := K12.zero) h), ah hw⟩)
 ·skip
  refine aE (G := Gt) Tryz.func26 rfl rfl (Hp (pl w) []) (aO (pl w) trivial ai) (ap hGF) ?_
  refine xp ?_
  refine lb fun b1 => ?_
  refine rW2 ?_
  refine pW2 ?_
  refine cF false rfl rfl ent76 (ik _) (decide_eq_false h) rfl rfl ?_
  refine rW2 ?_
  refine aH rfl rfl rfl ?_
  refine aH rfl rfl rfl ?_
  refine aH rfl rfl rfl ?_
  refine rW2 ?_
  refine rt ?_
  exact a6 rfl rfl (fun w hw => ⟨rb (rM (y := K12.zero) h), ah hw⟩)
theorem jY {f : Nat} {g : W12 → Bool} (en : ae Tryz.prog f) (h : ∀ a, Pure Tryz.prog Gt f [bu a] (.bool (g a))) : Snd Tryz.prog Gt f (c1 q12.ag rdB g) := eu q12.ag rdB en (fun a => bx (l1 (V12 _).symm) rfl (h a))
def TO54 : Tb Tryz.prog Gt := TO53.add (jY (g := fun x => decide (x = K12.zero)) ent26 iT)
theorem ju (x : W12) : Pure Tryz.prog Gt 41 [bu x] (bu (bt x)) := (bx (l1 (V12 _)) (V12 _) (pE TO54 Tryz.func41 [.inl [x.1.1.1, x.1.1.2, x.1.2.1.1, x.1.2.1.2, x.1.2.2.1, x.1.2.2.2, x.2.1.1, x.2.1.2, x.2.2.1.1, x.2.2.1.2, x.2.2.2.1, x.2.2.2.2]] (.inl (.inl [(bt x).1.1.1, (bt x).1.1.2, (bt x).1.2.1.1, (bt x).1.2.1.2, (bt x).1.2.2.1, (bt x).1.2.2.2, (bt x).2.1.1, (bt x).2.1.2, (bt x).2.2.1.1, (bt x).2.2.1.2, (bt x).2.2.2.1, (bt x).2.2.2.2])) (let t0 := K6.neg ((x.2.1.1, x.2.1.2), (x.2.2.1.1, x.2.2.1.2), (x.2.2.2.1, x.2.2.2.2)); (.inl (.inl [x.1.1.1, x.1.1.2, x.1.2.1.1, x.1.2.1.2, x.1.2.2.1, x.1.2.2.2, t0.1.1, t0.1.2, t0.2.1.1, t0.2.1.2, t0.2.2.1, t0.2.2.2]), [])) [] (by kernel_rfl) aR rfl))
theorem cf {f : Nat} {g : W12 → W12} (en : ae Tryz.prog f) (h : ∀ a, Pure Tryz.prog Gt f [bu a] (bu (g a))) : Snd Tryz.prog Gt f (c1 q12.ag q12.rd g) := eu q12.ag q12.rd en (fun a => bx (l1 (V12 _).symm) (V12 _).symm (h a))
def TO55 : Tb Tryz.prog Gt := TO54.add (cf (g := bt) ent41 ju)
theorem xm (x y : W12) : Pure Tryz.prog Gt 35 [bu x, bu y] (bu (K12.mul x y)) := by
 refine bc Tryz.func35 fun w hw hGF => ?_
 refine xp ?_
 refine lb fun b2 => ?_
 refine lb fun b3 => ?_
 refine la zv49 fun b4 => ?_
 refine aa ?_
 refine cr (E := EE [2999999]) [0, 1, 2, 3, 4, 5, 6, 7, 8, 9] [⟨10, 5, 47, ((fe 0 ++ fe 0) ++ ((fe 0 ++ fe 0) ++ (fe 0 ++ fe 0))).map U64⟩, ⟨11, 6, 47, ((fe 0 ++ fe 0) ++ ((fe 0 ++ fe 0) ++ (fe 0 ++ fe 0))).map U64⟩] [12, 13] bq rfl (by kernel_rfl) (by kernel_rfl) (by kernel_rfl) (by kernel_rfl) (by kernel_rfl) (by kernel_rfl) (by decide) (by intro x hx; simp only [List.mem_cons, List.not_mem_nil, or_false] at hx; rcases hx with rfl | rfl <;> exact bG rfl zv47 rfl) ?_
 refine rW2 ?_
 refine ⟨_, _, rfl, hGF, by intro x hx; simp only [List.mem_cons, List.not_mem_nil, or_false] at hx; rcases hx with rfl | rfl <;> rfl, by intro x hx; simp only [List.mem_cons, List.not_mem_nil, or_false] at hx; rcases hx with rfl | rfl <;> rfl, fun adr => ?_⟩
 refine rW2 ?_
 refine cr (E := EE [2999999]) [0, 1, 2, 3, 4, 5, 6, 7, 8, 9, 10] [⟨11, 7, 47, ((fe 0 ++ fe 0) ++ ((fe 0 ++ fe 0) ++ (fe 0 ++ fe 0))).map U64⟩] [12] bq rfl (by kernel_rfl) (by kernel_rfl) (by kernel_rfl) (by kernel_rfl) (by kernel_rfl) (by kernel_rfl) (by decide) (by intro x hx; simp only [List.mem_cons, List.not_mem_nil, or_false] at hx; subst hx; exact bG rfl zv47 rfl) ?_
 refine rW2 ?_
 refine ⟨_, _, rfl, hGF, by intro x hx; simp only [List.mem_cons, List.not_mem_nil, or_false] at hx; subst hx; rfl, by intro x hx; simp only [List.mem_cons, List.not_mem_nil, or_false] at hx; subst hx; rfl, fun adr => ?_⟩
 refine rW2 ?_
 refine bw (E := EE []) bq (by kernel_rfl) (by kernel_rfl) (by kernel_rfl) ?_
 refine rW2 ?_
 refine dd qY rfl rfl (by simp) (by simp) rfl rfl ?_
 refine rW2 ?_
 refine rt ?_
 exact ay 4 rfl rfl rfl Tryz.isAgg49 Tryz.sizeOf49 (by simp) (fun w hw => ⟨e12 (zq K6 [x.1, x.2, y.1, y.2, VV] (ta (tm j0 j2) (tvv 4 (tm j1 j3) rfl)) (ta (tm j0 j2) (tm j4 (tm j1 j3)))) (zq K6 [x.1, x.2, y.1, y.2, VV] (wU (wU (tm (ta j0 j1) (ta j2 j3)) (tm j0 j2)) (tm j1 j3)) (ta (tm j0 j3) (tm j1 j2))), ah hw⟩)
theorem gR {f : Nat} {g : W12 → W12 → W12} (en : ae Tryz.prog f) (h : ∀ a b, Pure Tryz.prog Gt f [bu a, bu b] (bu (g a b))) : Snd Tryz.prog Gt f (c2 q12.ag q12.ag q12.rd g) := dS q12.ag q12.ag q12.rd en (fun a b => bx (l2 (V12 _).symm (V12 _).symm) (V12 _).symm (h a b))
theorem gx (x : W12) : Pure Tryz.prog Gt 82 [bu x] (bu (K12.mul x x)) := by
 refine bc Tryz.func82 fun w hw hGF => ?_
 refine xp ?_
 refine lb fun b1 => ?_
 refine la zv49 fun b2 => ?_
 refine aa ?_
 refine pW2 ?_
 refine la zv47 fun b3 => ?_
 refine rW2 ?_
 refine cr (E := EE [2999999]) [0, 1, 2, 3, 4, 5, 6, 7, 8, 9, 10, 11] [⟨12, 4, 47, ((fe 0 ++ fe 0) ++ ((fe 0 ++ fe 0) ++ (fe 0 ++ fe 0))).map U64⟩] [13] bq rfl (by kernel_rfl) (by kernel_rfl) (by kernel_rfl) (by kernel_rfl) (by kernel_rfl) (by kernel_rfl) (by decide) (by intro x hx; simp only [List.mem_cons, List.not_mem_nil, or_false] at hx; subst hx; exact bG rfl zv47 rfl) ?_
 refine rW2 ?_
 refine ⟨_, _, rfl, hGF, by intro x hx; simp only [List.mem_cons, List.not_mem_nil, or_false] at hx; subst hx; rfl, by intro x hx; simp only [List.mem_cons, List.not_mem_nil, or_false] at hx; subst hx; rfl, fun adr => ?_⟩
 refine rW2 ?_
 refine bw (E := EE []) bq (by kernel_rfl) (by kernel_rfl) (by kernel_rfl) ?_
 refine rW2 ?_
 refine dd qY rfl rfl (by simp) (by simp) rfl rfl ?_
 refine rW2 ?_
 refine rt ?_
 exact ay 2 rfl rfl rfl Tryz.isAgg49 Tryz.sizeOf49 (by simp) (fun w hw => ⟨e12 (zq K6 [x.1, x.2, VV] (wU (wU (tm (ta j0 j1) (ta j0 (tvv 2 j1 rfl))) (tm j0 j1)) (tvv 2 (tm j0 j1) rfl)) (ta (tm j0 j0) (tm j2 (tm j1 j1)))) (zq K6 [x.1, x.2, VV] (ta (tm j0 j1) (tm j0 j1)) (ta (tm j0 j1) (tm j1 j0))), ah hw⟩)
theorem Ch (x : W12) : sb6 (K6.mul x.1 x.1) (v6 (K6.mul x.2 x.2)) = qnm K6 VV x := zq K6 [x.1, x.2, VV] (wU (tm j0 j0) (tvv 2 (tm j1 j1) rfl)) (ta (tm j0 j0) (tn (tm j2 (tm j1 j1))))
theorem GJ (x : W12) (n : W6) : K6.mul x.1 n = K6.add (K6.mul x.1 n) (K6.mul VV (K6.mul (K6.neg x.2) K6.zero)) := zq K6 [x.1, x.2, n, VV] (tm j0 j2) (ta (tm j0 j2) (tm j3 (tm (tn j1) tz0)))
theorem Fe (x : W12) (n : W6) : K6.neg (K6.mul x.2 n) = K6.add (K6.mul x.1 K6.zero) (K6.mul (K6.neg x.2) n) := zq K6 [x.1, x.2, n] (tn (tm j1 j2)) (ta (tm j0 tz0) (tm (tn j1) j2))
theorem CH (x : W12) : Pure Tryz.prog Gt 134 [bu x] (bu (fh x)) := by
 refine bc Tryz.func134 fun w hw hGF => ?_
 refine xp ?_
 refine lb fun b1 => ?_
 refine la zv49 fun b2 => ?_
 refine aa ?_
 refine cr (E := EE [2999999]) [0, 1, 2, 3, 4, 5, 6, 7] [⟨8, 3, 47, ((fe 0 ++ fe 0) ++ ((fe 0 ++ fe 0) ++ (fe 0 ++ fe 0))).map U64⟩] [9] bq rfl (by kernel_rfl) (by kernel_rfl) (by kernel_rfl) (by kernel_rfl) (by kernel_rfl) (by kernel_rfl) (by decide) (by intro x hx; simp only [List.mem_cons, List.not_mem_nil, or_false] at hx; subst hx; exact bG rfl zv47 rfl) ?_
 refine rW2 ?_
 refine ⟨_, _, rfl, hGF, by intro x hx; simp only [List.mem_cons, List.not_mem_nil, or_false] at hx; subst hx; rfl, by intro x hx; simp only [List.mem_cons, List.not_mem_nil, or_false] at hx; subst hx; rfl, fun adr => ?_⟩
 refine rW2 ?_
 refine pW2 ?_
 refine lc ent178 (xg _) ?_
 refine la zv47 fun b4 => ?_
 refine rW2 ?_
 refine bw (E := EE []) bq (by kernel_rfl) (by kernel_rfl) (by kernel_rfl) ?_
 refine rW2 ?_
 refine lc ent99 (te _) ?_
 refine dd qY rfl rfl (by simp) (by simp) rfl rfl ?_
 refine rW2 ?_
 refine rt ?_
 exact ay 2 rfl rfl rfl Tryz.isAgg49 Tryz.sizeOf49 (by simp) (fun w hw => ⟨by rw [Ch]; exact e12 (GJ _ _) (Fe _ _), ah hw⟩)
end Q6
end
section
open Go.RowKit
namespace Q6
attribute [local simp] aN aZ aI aF aw aX aC aB aD PLl bX bZ N1l ca bU cb aP a5 aJ aU aV bM
attribute [local simp] iM ez
end Q6
end
section
open Go.RowKit
theorem ent195 : ae Tryz.prog 195 := fun _ _ => by kernel_rfl
namespace Q6
attribute [local simp] aN aZ aI aF aw aX aC aB aD PLl bX bZ N1l ca bU cb aP a5 aJ aU aV bM
theorem rW7 {Q P : Prop} (k : Q) (h : Q → P := by intro k; (refine LY.run ?_); (repeat (first | refine bK rfl rfl rfl ?_ | refine bg rfl rfl rfl ?_ | ((refine uz rfl rfl ?_ rfl rfl ?_); (· simp)) | ((refine o0 hGF rfl rfl rfl ?_ ?_ (ak _) rfl ?_); (· simp); (· simp)) | ((refine GG hGF rfl rfl rfl ?_ ?_ (ak _) rfl ?_); (· simp); (· simp)))); (first | refine ci ?_ | refine LY.mk ?_); exact k) : P := h k
theorem pW7 {Q P : Prop} (k : Q) (h : Q → P := by intro k; (refine xp ?_); (refine rW7 ?_); exact k) : P := h k
attribute [local simp] iM ez
theorem zv192 (w : World) : (zeroValue 192).run Tryz.prog w = .ok (.agg ((FM (FF fun _ => ze2) 6).map U64).toArray) w := by
 rw [nG]; exact (Tryz.zeroValue192 w).trans (by rfl)
abbrev TV6 (f : Nat → W2) : Value := .agg ((FM (FF f) 6).map U64).toArray
theorem CM (f z : Nat → List (BitVec 64)) : ∀ i, i < 6 → su f [0, 1, 2, 3, 4, 5] z i = f i := fun i hi => l4 _ _ _ _ (.inl (by
 match i, hi with
 | 0, _ => decide
 | 1, _ => decide
 | 2, _ => decide
 | 3, _ => decide
 | 4, _ => decide
 | 5, _ => decide))
theorem yJ (x : W12) : Pure Tryz.prog Gt 196 [bu x] (TV6 (p12 x)) := by
 refine bc Tryz.func196 fun w hw hGF => ?_
 refine xp ?_
 refine lb fun b1 => ?_
 refine la zv192 fun b2 => ?_
 refine aa ?_
 refine xp ?_
 refine bR 0 rfl Tryz.underlying49 rfl Tryz.sizeOf47 (by decide) rfl rfl rfl ?_
 refine bR 0 rfl Tryz.underlying47 rfl Tryz.sizeOf33 (by decide) rfl rfl rfl ?_
 refine a7 1 _ rfl rfl Tryz.isAgg33 Tryz.sizeOf33 (by simp) (wq mu) rfl rfl ?_
 refine bR 36 rfl Tryz.underlying49 rfl Tryz.sizeOf47 (by decide) rfl rfl rfl ?_
 refine bR 36 rfl Tryz.underlying47 rfl Tryz.sizeOf33 (by decide) rfl rfl rfl ?_
 refine a7 1 _ rfl rfl Tryz.isAgg33 Tryz.sizeOf33 (by simp) (pH (m := 36) (o := 0) (by simp) rfl mu) rfl rfl ?_
 refine bR 0 rfl Tryz.underlying49 rfl Tryz.sizeOf47 (by decide) rfl rfl rfl ?_
 refine bR 12 rfl Tryz.underlying47 rfl Tryz.sizeOf33 (by decide) rfl rfl rfl ?_
 refine a7 1 _ rfl rfl Tryz.isAgg33 Tryz.sizeOf33 (by simp) (wq (BZ (by simp))) rfl rfl ?_
 refine bR 36 rfl Tryz.underlying49 rfl Tryz.sizeOf47 (by decide) rfl rfl rfl ?_
 refine bR 48 rfl Tryz.underlying47 rfl Tryz.sizeOf33 (by decide) rfl rfl rfl ?_
 refine a7 1 _ rfl rfl Tryz.isAgg33 Tryz.sizeOf33 (by simp) (pH (m := 36) (o := 12) (by simp) rfl (BZ (m := 12) (by simp))) rfl rfl ?_
 refine bR 0 rfl Tryz.underlying49 rfl Tryz.sizeOf47 (by decide) rfl rfl rfl ?_
 refine bR 24 rfl Tryz.underlying47 rfl Tryz.sizeOf33 (by decide) rfl rfl rfl ?_
 refine a7 1 _ rfl rfl Tryz.isAgg33 Tryz.sizeOf33 (by simp) (wq (uN (m := 12) (n := 12) (by simp) (by simp) rfl)) rfl rfl ?_
 refine bR 36 rfl Tryz.underlying49 rfl Tryz.sizeOf47 (by decide) rfl rfl rfl ?_
 refine bR 60 rfl Tryz.underlying47 rfl Tryz.sizeOf33 (by decide) rfl rfl rfl ?_
 refine a7 1 _ rfl rfl Tryz.isAgg33 Tryz.sizeOf33 (by simp) (pH (m := 36) (o := 24) (by simp) rfl (uN (m := 12) (n := 12) (by simp) (by simp) rfl)) rfl rfl ?_
 refine wd (s := 12) (FF (p12 x)) (FF (p12 x)) [0, 1, 2, 3, 4, 5] rfl rfl rfl (fun i _ => aJ _) Tryz.underlying192 Tryz.sizeOf33 zv192 (CM _ _) rfl rfl ?_
 refine rW7 ?_
 refine rt ?_
 exact ay 2 rfl rfl rfl Tryz.isAgg192 Tryz.sizeOf192 (by simp) (fun w hw => ⟨rfl, ah hw⟩)
theorem FU (f : Nat → W2) : Pure Tryz.prog Gt 176 [TV6 f] (bu (tq f)) := by
 refine bc Tryz.func176 fun w hw hGF => ?_
 refine xp ?_
 refine lb fun b1 => ?_
 refine la zv49 fun b2 => ?_
 refine aa ?_
 refine xp ?_
 refine cX (0) (12 * (0)) rfl rfl Tryz.underlying192 Tryz.sizeOf33 (by omega) (by omega) (by omega) rfl rfl ?_
 refine a7 1 ((fe (f 0).1 ++ fe (f 0).2).map U64) rfl rfl Tryz.isAgg33 Tryz.sizeOf33 (by simp) (dH _ (f 0) 6 (0) _ (by omega) rfl (rfl)) rfl rfl ?_
 refine cX (2) (12 * (2)) rfl rfl Tryz.underlying192 Tryz.sizeOf33 (by omega) (by omega) (by omega) rfl rfl ?_
 refine a7 1 ((fe (f 2).1 ++ fe (f 2).2).map U64) rfl rfl Tryz.isAgg33 Tryz.sizeOf33 (by simp) (dH _ (f 2) 6 (2) _ (by omega) rfl (rfl)) rfl rfl ?_
 refine cX (4) (12 * (4)) rfl rfl Tryz.underlying192 Tryz.sizeOf33 (by omega) (by omega) (by omega) rfl rfl ?_
 refine a7 1 ((fe (f 4).1 ++ fe (f 4).2).map U64) rfl rfl Tryz.isAgg33 Tryz.sizeOf33 (by simp) (dH _ (f 4) 6 (4) _ (by omega) rfl (rfl)) rfl rfl ?_
 refine dR hH rfl rfl rfl (by simp) (by simp) (by simp) rfl rfl ?_
 refine cX (1) (12 * (1)) rfl rfl Tryz.underlying192 Tryz.sizeOf33 (by omega) (by omega) (by omega) rfl rfl ?_
 refine a7 1 ((fe (f 1).1 ++ fe (f 1).2).map U64) rfl rfl Tryz.isAgg33 Tryz.sizeOf33 (by simp) (dH _ (f 1) 6 (1) _ (by omega) rfl (rfl)) rfl rfl ?_
 refine cX (3) (12 * (3)) rfl rfl Tryz.underlying192 Tryz.sizeOf33 (by omega) (by omega) (by omega) rfl rfl ?_
 refine a7 1 ((fe (f 3).1 ++ fe (f 3).2).map U64) rfl rfl Tryz.isAgg33 Tryz.sizeOf33 (by simp) (dH _ (f 3) 6 (3) _ (by omega) rfl (rfl)) rfl rfl ?_
 refine cX (5) (12 * (5)) rfl rfl Tryz.underlying192 Tryz.sizeOf33 (by omega) (by omega) (by omega) rfl rfl ?_
 refine a7 1 ((fe (f 5).1 ++ fe (f 5).2).map U64) rfl rfl Tryz.isAgg33 Tryz.sizeOf33 (by simp) (dH _ (f 5) 6 (5) _ (by omega) rfl (rfl)) rfl rfl ?_
 refine dR hH rfl rfl rfl (by simp) (by simp) (by simp) rfl rfl ?_
 refine dd qY rfl rfl (by simp) (by simp) rfl rfl ?_
 refine rW7 ?_
 refine rt ?_
 exact ay 2 rfl rfl rfl Tryz.isAgg49 Tryz.sizeOf49 (by simp) (fun w hw => ⟨rfl, ah hw⟩)
theorem kU (x : W12) (w : World) (hw : Gt w) : Calls Tryz.prog 175 [bu x].toArray w (fun e w' => ∃ b1, e = .returned (.func (.func 195) #[] #[.pointer (some ⟨b1, 0, none⟩)]) ∧ Grow w w' ∧ w.heap.size ≤ b1 ∧ OwnB w' b1 ((((fe (x.1.1).1 ++ fe (x.1.1).2) ++ ((fe (x.1.2.1).1 ++ fe (x.1.2.1).2) ++ (fe (x.1.2.2).1 ++ fe (x.1.2.2).2))) ++ ((fe (x.2.1).1 ++ fe (x.2.1).2) ++ ((fe (x.2.2.1).1 ++ fe (x.2.2.1).2) ++ (fe (x.2.2.2).1 ++ fe (x.2.2.2).2)))).map U64) 49) := by
 have hGF : BOk Gt (pl w) := gt_low.plain hw
 refine aE (G := Gt) Tryz.func175 rfl rfl (Hp (pl w) []) (aO (pl w) trivial ai) (ap hGF) ?_
 refine xp ?_
 refine lb fun b1 => ?_
 refine rW7 ?_
 refine xp ?_
 refine gz rfl rfl rfl rfl ?_
 refine rW7 ?_
 refine rt ?_
 exact a6 rfl rfl (fun w hw => ⟨b1, rfl, ah hw, (hw.own 1 b1 _ _ rfl).2.elim id False.elim, (hw.own 1 b1 _ _ rfl).1⟩)
def sw (x : W12) : List (List Value) := (List.range 6).map fun (k : Nat) => [I (k : Int), EV2 (p12 x k)]
theorem ko (x : W12) : (sw x).length = 6 := by rw [sw, List.length_map, List.length_range]
theorem oH (x : W12) (k : Nat) (h : k < 6) : (sw x)[k]? = some [I (k : Int), EV2 (p12 x k)] := by
 rw [sw, List.getElem?_map, List.getElem?_range h]; rfl
theorem xY (x : W12) (k : Nat) (v : List Value) (h : (sw x)[k]? = some v) : k < 6 ∧ v = [I (k : Int), EV2 (p12 x k)] := by
 have hk : k < 6 := by
  rcases Nat.lt_or_ge k 6 with hk | hk
  ·exact hk
  ·rw [List.getElem?_eq_none (by rw [ko]; exact hk)] at h; cases h
 exact ⟨hk, (Option.some.inj ((oH x k hk).symm.trans h)).symm⟩
def Ar (bb : Nat) (x : W12) : Cls := fun w => w.rangeAt bb 0 ((((fe (x.1.1).1 ++ fe (x.1.1).2) ++ ((fe (x.1.2.1).1 ++ fe (x.1.2.1).2) ++ (fe (x.1.2.2).1 ++ fe (x.1.2.2).2))) ++ ((fe (x.2.1).1 ++ fe (x.2.1).2) ++ ((fe (x.2.2.1).1 ++ fe (x.2.2.1).2) ++ (fe (x.2.2.2).1 ++ fe (x.2.2.2).2)))).map U64)
theorem BR (bb : Nat) (x : W12) : eO Tryz.prog Gt 195 [.pointer (some ⟨bb, 0, none⟩)] (sw x) (Ar bb x) := by
 intro l J Jx hJ hJx hRd hGx hY w hj
 have okJ : ∀ k, BOk Gt (Bi w (fun Y => J Y k)) := fun k => ⟨fun _ _ _ h => (hRd _ _ _ h.rid).1, hJ k⟩
 have okX : ∀ k, BOk Gt (Bi w (fun Y => Jx Y k)) := fun k => ⟨fun _ _ _ h => hGx _ _ _ h.rid, hJx k⟩
 have c1 : ∀ k L w', Hp (Bi w (fun Y => J Y k)) L w' → Ar bb x w' := fun k L w' h => (hRd _ _ _ h.rid).2
 refine aE (G := Gt) Tryz.func195 rfl rfl (Hp (Bi w (fun Y => J Y 0)) []) (aO (Bi w _) hj (hJ 0)) (ap (okJ 0)) ?_
 refine xp ?_
 refine dM rfl Tryz.isAgg49 Tryz.sizeOf49 (by simp) (fun w h => c1 _ _ w h) rfl rfl ?_
 refine lc ent196 (yJ _) ?_
 refine rW7 ?_
 refine aj ?_
 refine eV (ι := { i : Nat // i ≤ 6 }) (fun y => [(0, .func (.yield l) #[] #[]), (1, .pointer (some ⟨bb, 0, none⟩)), (6, TV6 (p12 x)), (7, I (y.1 : Int))]) (fun y => Bi w (fun Y => J Y y.1)) (fun y => []) (fun y => 6 - y.1) ⟨0, Nat.zero_le _⟩ (fun _ => okJ _) rfl ⟨rfl, rfl, rfl, rfl, trivial⟩ trivial ?_
 rintro ⟨i, hi⟩
 dsimp only
 refine xp ?_
 refine ac rfl rfl (fun _ => rfl) (fun _ => aT _ _ _) rfl rfl ?_
 refine aa ?_
 refine am ?_
 refine bO rfl (fun hc => ?_) (fun hc => ?_)
 ·have hi2 : i < 6 := by simp at hc; omega
  refine aA ?_
  refine am ?_
  refine aj ?_
  refine pW7 ?_
  refine rx (FF (p12 x)) (i) rfl rfl Tryz.underlying192 Tryz.sizeOf33 Tryz.isAgg33 (by omega) (by omega) (aJ _) rfl rfl ?_
  refine bJ 4 (okJ _) zv33 rfl rfl ?_
  intro b4
  refine rW7 ?_
  refine ao 4 (okJ _) rfl rfl rfl Tryz.sizeOf33 (by simp) (by simp) (ak _) rfl ?_
  refine aa ?_
  refine pW7 ?_
  refine dv (hY.b (k := i) (oH x i (by omega)) w) (okJ _) (okX _) rfl rfl rfl rfl rfl ?_ ?_
  ·skip
   refine bC rfl (fun _ => bi _) rfl rfl ?_
   refine aa ?_
   refine bf rfl ?_
   refine aA ?_
   refine au (E := EE []) ?_
   refine ac rfl rfl (fun _ => rfl) (fun _ => aL _ _ _ (by unfold inI; omega)) rfl rfl ?_
   refine rW7 ?_
   repeat (refine aQ ?_)
   refine bl ?_
   exact ⟨rfl, ⟨i + 1, by omega⟩, _, by show 6 - (i + 1) < 6 - i; omega, rfl, ⟨rfl, rfl, rfl, rfl, trivial⟩, trivial⟩
  ·skip
   refine bC rfl (fun _ => bi _) rfl rfl ?_
   refine aa ?_
   refine cg rfl ?_
   refine rt ?_
   repeat (first | refine db ?_ | refine bL ?_ | refine de rfl ?_ | refine a9 ?_ | refine ba ?_)
   exact cO rfl (fun w hw => ⟨⟨_, rfl⟩, .inr ⟨_, bN (hJx _) hw.rid⟩⟩)
 ·obtain rfl : i = 6 := by simp at hc; omega
  refine a8 ?_
  repeat (first | refine db ?_ | refine bL ?_ | refine de rfl ?_ | refine a9 ?_ | refine ba ?_)
  refine df rfl (fun w hw => ⟨⟨_, rfl⟩, .inl ?_⟩)
  have := bN (hJ _) hw.rid
  rw [ko]
  exact this
end Q6
end
section
open Go.RowKit
namespace Q6
attribute [local simp] aN aZ aI aF aw aX aC aB aD PLl bX bZ N1l ca bU cb aP a5 aJ aU aV bM
theorem eU {Q P : Prop} (k : Q) (h : Q → P := by intro k; (refine LY.run ?_); (repeat (first | refine bK rfl rfl rfl ?_ | refine bg rfl rfl rfl ?_ | ((refine uz rfl rfl ?_ rfl rfl ?_); (· simp)) | ((refine oG rfl rfl ?_ rfl rfl ?_); (· simp)) | ((refine u2 rfl rfl ?_ rfl rfl ?_); (· simp)) | ((refine E9 rfl rfl ?_ rfl rfl ?_); (· simp)) | ((refine xG hGF rfl rfl rfl ?_ ?_ (ak _) rfl ?_); (· simp); (· simp)) | ((refine pV hGF rfl rfl rfl ?_ ?_ (ak _) rfl ?_); (· simp); (· simp)) | refine gc rfl rfl rfl rfl ?_ | refine bQ (f := 107) rfl rfl ent107 (tF) rfl rfl ?_ | refine bQ (f := 171) rfl rfl ent171 (w4 _) rfl rfl ?_)); (first | refine ci ?_ | refine LY.mk ?_); exact k) : P := h k
attribute [local simp] iM ez
theorem ou (e : Option Addr) (cap : Nat) (w : World) (hw : Gt w) (hby : BytesAt w e SXB) :
  Calls Tryz.prog 46 [.slice e SXB.length cap].toArray w (fun r w' => r = .returned (.tuple #[EV SR, .bool (FO SXB)]) ∧ Grow w w') := by
 have h := eQ e cap SXB w hw hby
 rw [C4] at h
 exact h
theorem Fw {m : Nat} (h : m % 2 = 1) (y : W2) (k : Nat) : frq y m k = ml2 (cj2 y) (pw2 (GV m) k) := by rw [frq, cjn, if_pos h]
theorem FQ {m : Nat} (h : ¬ m % 2 = 1) (y : W2) (k : Nat) : frq y m k = ml2 y (pw2 (GV m) k) := by rw [frq, cjn, if_neg h]
theorem GV_s (i : Nat) : GV (i + 1) = ml2 (cj2 (GV i)) ((SR, -SR) : W2) := by rw [EH]; rfl
theorem we (n : Nat) (hn : n ≤ 1000) : Pure Tryz.prog Gt 174 [I (n : Int)] (EV2 (GV n)) := by
 refine bc Tryz.func174 fun w hw hGF => ?_
 refine ab (E := EE [1000022]) ?_
 refine la zv33 fun b2 => ?_
 refine aa ?_
 refine ab (E := EE [1000022]) ?_
 refine oR 8 SXB hGF rfl rfl rfl (by decide) (by decide) Tryz.underlying22 Tryz.sizeOf5 Tryz.zeroValue5 rfl rfl ?_
 intro b8
 refine pj 8 rfl hGF rfl rfl Tryz.underlying22 Tryz.underlying5 rfl rfl ?_
 refine bk rfl rfl ent46 (fun w' hC hG => ou _ _ w' hG (BytesAt.range (hC.own 8 b8 _ _ rfl).1.range)) rfl rfl ?_
 refine eU ?_
 refine la zv27 fun b3 => ?_
 refine eU ?_
 refine cr (E := EE [1000022, 2999999]) [0, 1, 2, 3] [⟨4, 5, 33, (fe 0 ++ fe 0).map U64⟩] [5] bq rfl (by kernel_rfl) (by kernel_rfl) (by kernel_rfl) (by kernel_rfl) (by kernel_rfl) (by kernel_rfl) (by decide) (by intro x hx; simp only [List.mem_cons, List.not_mem_nil, or_false] at hx; subst hx; exact bG rfl zv33 rfl) ?_
 refine eU ?_
 refine lc ent100 (lF _) ?_
 refine dd uq rfl rfl (by simp) (by simp) rfl rfl ?_
 refine aa ?_
 refine ⟨_, _, rfl, hGF, by intro x hx; simp only [List.mem_cons, List.not_mem_nil, or_false] at hx; subst hx; rfl, by intro x hx; simp only [List.mem_cons, List.not_mem_nil, or_false] at hx; subst hx; rfl, fun adr => ?_⟩
 refine eU ?_
 refine ab (E := EE [1000022]) ?_
 refine eU ?_
 refine la zv33 fun b6 => ?_
 refine eU ?_
 refine am ?_
 refine ab (E := EE [1000022]) ?_
 refine eU ?_
 refine aj ?_
 refine cv (ι := { i : Nat // i ≤ n }) (fun y => [(0, I (n : Int)), (2, .pointer (some ⟨b2, 0, none⟩)), (3, .pointer (some ⟨b3, 0, none⟩)), (5, .pointer (some ⟨(adr 5), 0, none⟩)), (6, .pointer (some ⟨b6, 0, none⟩)), (18, I (n : Int)), (19, I (y.1 : Int))]) (fun y => [(2, b2, (fe 0 ++ fe 0).map U64, 33), (3, b3, (fe SR).map U64, 27), (5, adr 5, (fe SR ++ fe (-SR)).map U64, 33), (6, b6, (fe (GV y.1).1 ++ fe (GV y.1).2).map U64, 33)]) (fun y => n - y.1) ⟨0, Nat.zero_le _⟩ hGF ⟨rfl, rfl, rfl, rfl, rfl, rfl, rfl, trivial⟩ ⟨rfl, rfl, rfl, rfl, trivial⟩ ?_
 rintro ⟨i, hi⟩
 dsimp only
 refine ab (E := EE [1000022]) ?_
 refine ac rfl rfl (fun _ => rfl) (fun _ => aT _ _ _) rfl rfl ?_
 refine aa ?_
 refine am ?_
 refine bO rfl (fun hc => ?_) (fun hc => ?_)
 ·simp only [decide_eq_true_eq] at hc
  refine aA ?_
  refine am ?_
  refine aj ?_
  refine dC (E := EE [1000022]) bq (by kernel_rfl) (by kernel_rfl) (by kernel_rfl) ?_
  refine eU ?_
  refine aG rfl rfl ent130 (jG (cj2 (GV i)) ((SR, -SR) : W2)) rfl rfl ?_
  refine eU ?_
  refine au (E := EE [1000022]) ?_
  refine ac rfl rfl (fun _ => rfl) (fun _ => aL _ _ _ (by unfold inI; omega)) rfl rfl ?_
  refine eU ?_
  repeat (refine aQ ?_)
  refine bl ?_
  exact ⟨rfl, ⟨i + 1, by omega⟩, _, by show n - (i + 1) < n - i; omega, rfl, ⟨rfl, rfl, rfl, rfl, rfl, rfl, rfl, trivial⟩, ⟨rfl, rfl, rfl, by rw [GV_s i]; rfl, trivial⟩⟩
 ·obtain rfl : n = i := by simp at hc; omega
  refine a8 ?_
  refine ab (E := EE [1000022]) ?_
  refine eU ?_
  refine rt ?_
  exact ay 2 rfl rfl rfl Tryz.isAgg33 Tryz.sizeOf33 (by simp) (fun w hw => ⟨rfl, ah hw⟩)
theorem rz (x : W12) (n : Int) : Pure Tryz.prog Gt 132 [bu x, I n] (bu (fR x (n % 12).toNat)) := by
 intro w hw
 have hGF : BOk Gt (pl w) := gt_low.plain hw
 obtain ⟨m, hm⟩ : ∃ m : Nat, (n % 12).toNat = m := ⟨_, rfl⟩
 have hm6 : m < 12 := by omega
 rw [hm, rO]
 refine bF (G := Gt) Tryz.func132 rfl rfl (Hp (pl w) []) (aO (pl w) trivial ai) (ap hGF) ?_
 refine ab (E := EE [175]) ?_
 refine lb fun b2 => ?_
 refine iQ 3 hGF rfl rfl rfl ?_
 intro b3
 refine la zv49 fun b4 => ?_
 refine aa ?_
 refine ab (E := EE [175]) ?_
 refine bT 3 rfl rfl rfl Tryz.isAgg3 rfl rfl ?_
 refine ac (v := I (n.tmod 12)) rfl rfl (fun _ => rfl) (fun _ => d9 _ _ _ (by decide)) rfl rfl ?_
 refine ac (v := I (n.tmod 12 + 12)) rfl rfl (fun _ => rfl) (fun _ => aL _ _ _ (uy n)) rfl rfl ?_
 refine ac (v := I (m : Int)) rfl rfl (fun _ => rfl) (fun _ => (d9 _ _ _ (by decide)).trans (by rw [F9, hm])) rfl rfl ?_
 refine cp 3 hGF rfl rfl rfl Tryz.sizeOf3 rfl (by show 0 < 1; decide) rfl ?_
 refine aa ?_
 refine ab (E := EE [175]) ?_
 refine bT 3 rfl rfl rfl Tryz.isAgg3 rfl rfl ?_
 refine aG rfl rfl ent174 (we m (by omega)) rfl rfl ?_
 refine eU ?_
 refine la zv33 fun b5 => ?_
 refine la zv33 fun b6 => ?_
 refine eU ?_
 refine ab (E := EE [175]) ?_
 refine la zv192 fun b7 => ?_
 refine aa ?_
 refine am ?_
 refine ab (E := EE [175]) ?_
 refine eU ?_
 refine cq rfl rfl ent175 rfl rfl (fun w' hw' => (kU x w' (hGF.g _ _ _ hw')).mono fun e' w'' h => ?_)
 obtain ⟨c1, rfl, hg, h1, ho⟩ := h
 refine ⟨_, _, rfl, ap hGF, hw'.news ai hg [(33, c1, (((fe (x.1.1).1 ++ fe (x.1.1).2) ++ ((fe (x.1.2.1).1 ++ fe (x.1.2.1).2) ++ (fe (x.1.2.2).1 ++ fe (x.1.2.2).2))) ++ ((fe (x.2.1).1 ++ fe (x.2.1).2) ++ ((fe (x.2.2.1).1 ++ fe (x.2.2.1).2) ++ (fe (x.2.2.2).1 ++ fe (x.2.2.2).2)))).map U64, 49)] ?_ cZ, ?_⟩
 ·intro n' b' c' t' hl
  rcases bd hl with ⟨_, e⟩ | ⟨_, hl⟩
  ·cases e; exact ⟨h1, ho⟩
  ·cases hl
 clear hw' hg h1 ho
 refine aa ?_
 refine aj ?_
 refine da (fun _ => pl w) (fun _ _ => pl w) (fun _ => hGF) (fun _ _ => hGF) (fun _ => rfl) (fun _ _ => rfl) rfl rfl ent195 (BR c1 x) (fun v hv => by obtain ⟨k, hk, rfl⟩ := List.mem_map.1 hv; rfl) rfl (fun k => [(2, b2, (((fe (x.1.1).1 ++ fe (x.1.1).2) ++ ((fe (x.1.2.1).1 ++ fe (x.1.2.1).2) ++ (fe (x.1.2.2).1 ++ fe (x.1.2.2).2))) ++ ((fe (x.2.1).1 ++ fe (x.2.1).2) ++ ((fe (x.2.2.1).1 ++ fe (x.2.2.1).2) ++ (fe (x.2.2.2).1 ++ fe (x.2.2.2).2)))).map U64, 49), (3, b3, [I (m : Int)], 3), (4, b4, (((fe 0 ++ fe 0) ++ ((fe 0 ++ fe 0) ++ (fe 0 ++ fe 0))) ++ ((fe 0 ++ fe 0) ++ ((fe 0 ++ fe 0) ++ (fe 0 ++ fe 0)))).map U64, 49), (5, b5, (fe (GV m).1 ++ fe (GV m).2).map U64, 33), (6, b6, (fe (pw2 (GV m) k).1 ++ fe (pw2 (GV m) k).2).map U64, 33), (7, b7, (FM (FF (fun j => if j < k then frq (p12 x j) m j else ze2)) 6).map U64, 192), (33, c1, (((fe (x.1.1).1 ++ fe (x.1.1).2) ++ ((fe (x.1.2.1).1 ++ fe (x.1.2.1).2) ++ (fe (x.1.2.2).1 ++ fe (x.1.2.2).2))) ++ ((fe (x.2.1).1 ++ fe (x.2.1).2) ++ ((fe (x.2.2.1).1 ++ fe (x.2.2.1).2) ++ (fe (x.2.2.2).1 ++ fe (x.2.2.2).2)))).map U64, 49)]) (fun _ _ _ => False) ⟨rfl, rfl, rfl, rfl, rfl, congrArg (fun l => some (b7, l, _)) (congrArg (List.map U64) (ow fun j _ => (if_neg (Nat.not_lt_zero j)).symm)), rfl, trivial⟩ (fun k _ w' h => cC (n := 33) rfl w' h) ?_ ?_ (fun _ _ _ _ _ h => h.elim)
 ·intro k v hx R hR
  obtain ⟨hk, rfl⟩ := xY x k v hx
  refine ab (E := EE [175]) ?_
  refine eU ?_
  refine au (E := EE [175]) ?_
  refine bJ 9 (hR (pl w) rfl hGF).1 zv33 rfl rfl ?_
  intro b9
  refine ao 9 (hR (pl w) rfl hGF).1 rfl rfl rfl Tryz.sizeOf33 (by simp) (by simp) (ak _) rfl ?_
  refine aa ?_
  refine ⟨rfl, _, rfl, ?_⟩
  refine aj ?_
  refine am ?_
  refine ab (E := EE [175]) ?_
  refine bT 3 rfl rfl rfl Tryz.isAgg3 rfl rfl ?_
  refine ac (v := I ((m % 2 : Nat) : Int)) rfl rfl (fun _ => rfl) (fun _ => d9 _ _ _ (by decide)) rfl rfl ?_
  refine ac rfl rfl (fun _ => rfl) (fun _ => s7 _ _ _) rfl rfl ?_
  refine aa ?_
  refine bO rfl (fun hc => ?_) (fun hc => ?_)
  ·have hp : m % 2 = 1 := by simp at hc; omega
   refine au (E := EE [175]) ?_
   refine eU ?_
   refine ao 9 (hR (pl w) rfl hGF).2.1 rfl rfl rfl Tryz.sizeOf33 (by simp) (by simp) (ak _) rfl ?_
   refine aa ?_
   refine ab (E := EE [175]) ?_
   refine eU ?_
   refine lc ent130 (jG _ _) ?_
   refine cX (k) (12 * (k)) rfl rfl Tryz.underlying192 Tryz.sizeOf33 (by omega) (by omega) (by omega) rfl rfl ?_
   refine gI 7 ((FM (FF (fun j => if j < k + 1 then frq (p12 x j) m j else ze2)) 6).map U64) (hR (pl w) rfl hGF).2.1 rfl rfl rfl Tryz.sizeOf33 (by simp) (ak _) (by simp; omega) (mi _ _ (ml2 (cj2 (p12 x k)) (pw2 (GV m) k)) 6 (k) _ (by omega) rfl (fun j _ => by rw [← Fw hp]; exact oV (fun j => frq (p12 x j) m j) (fun _ => ze2) k j)) rfl ?_
   refine aa ?_
   refine au (E := EE [175]) ?_
   refine eU ?_
   refine lc ent130 (jG _ _) ?_
   refine ao 6 (hR (pl w) rfl hGF).2.1 rfl rfl rfl Tryz.sizeOf33 (by simp) (by simp) (ak _) rfl ?_
   refine aa ?_
   repeat (refine aQ ?_)
   exact ⟨_, rfl, ⟨rfl, rfl, rfl, rfl, rfl, rfl, rfl, trivial⟩⟩
  ·have hp : ¬ m % 2 = 1 := by simp at hc; omega
   refine aA ?_
   refine ab (E := EE [175]) ?_
   refine eU ?_
   refine lc ent130 (jG _ _) ?_
   refine cX (k) (12 * (k)) rfl rfl Tryz.underlying192 Tryz.sizeOf33 (by omega) (by omega) (by omega) rfl rfl ?_
   refine gI 7 ((FM (FF (fun j => if j < k + 1 then frq (p12 x j) m j else ze2)) 6).map U64) (hR (pl w) rfl hGF).2.1 rfl rfl rfl Tryz.sizeOf33 (by simp) (ak _) (by simp; omega) (mi _ _ (ml2 (p12 x k) (pw2 (GV m) k)) 6 (k) _ (by omega) rfl (fun j _ => by rw [← FQ hp]; exact oV (fun j => frq (p12 x j) m j) (fun _ => ze2) k j)) rfl ?_
   refine aa ?_
   refine au (E := EE [175]) ?_
   refine eU ?_
   refine lc ent130 (jG _ _) ?_
   refine ao 6 (hR (pl w) rfl hGF).2.1 rfl rfl rfl Tryz.sizeOf33 (by simp) (by simp) (ak _) rfl ?_
   refine aa ?_
   repeat (refine aQ ?_)
   exact ⟨_, rfl, ⟨rfl, rfl, rfl, rfl, rfl, rfl, rfl, trivial⟩⟩
 ·intro D hD
  rw [ko]
  refine ab (E := EE [175]) ?_
  refine eU ?_
  refine lc ent176 (FU _) ?_
  refine ao 4 hD rfl rfl rfl Tryz.sizeOf49 (by simp) (by simp) (ak _) rfl ?_
  refine aa ?_
  refine rt ?_
  exact cm (.inl rfl) ai (ay 4 rfl rfl rfl Tryz.isAgg49 Tryz.sizeOf49 (by simp) (fun w hw => ⟨e12 rfl rfl, ah hw⟩))
end Q6
end
end Go.Proofs.YtpnpiblphnpfiaaGreatDoor
