/-
 Elements of fp12 as values; what the laws of layer 7 share.
 The walks of package fp12.
 The walks of package fp12: powers.
 The walks of package fp12: its parts.
 The walks of package fp12: powers of p.
-/
import Derived.Test.YtpnpiblphnpfiaaGreatDoorXE
import Derived.Test.YtpnpiblphnpfiaaGreatDoorX3
import Derived.Test.YtpnpiblphnpfiaaGreatDoorXJ
import Derived.Test.YtpnpiblphnpfiaaGreatDoorX5
set_option maxRecDepth 100000
set_option maxHeartbeats 1000000
namespace Go.Proofs.YtpnpiblphnpfiaaGreatDoor
section
open Go.RowKit
theorem ent132 : ae Tryz.prog 132 := fun _ _ => by kernel_rfl
theorem ent174 : ae Tryz.prog 174 := fun _ _ => by kernel_rfl
theorem ent35 : ae Tryz.prog 35 := fun _ _ => by kernel_rfl
theorem ent196 : ae Tryz.prog 196 := fun _ _ => by kernel_rfl
theorem ent26 : ae Tryz.prog 26 := fun _ _ => by kernel_rfl
theorem ent176 : ae Tryz.prog 176 := fun _ _ => by kernel_rfl
theorem ent22 : ae Tryz.prog 22 := fun _ _ => by kernel_rfl
theorem ent134 : ae Tryz.prog 134 := fun _ _ => by kernel_rfl
theorem ent82 : ae Tryz.prog 82 := fun _ _ => by kernel_rfl
theorem ent33 : ae Tryz.prog 33 := fun _ _ => by kernel_rfl
theorem ent41 : ae Tryz.prog 41 := fun _ _ => by kernel_rfl
theorem ent175 : ae Tryz.prog 175 := fun _ _ => by kernel_rfl
namespace Q6
attribute [local simp] aL ba aI aH aB bc aF aE aG PLl cf cb N1l ca bY ce aR a9 aJ aW a5 bQ
attribute [local simp] iQ cK
abbrev bu (x : W12) : Value := .agg ((((fe (x.1.1).1 ++ fe (x.1.1).2) ++ ((fe (x.1.2.1).1 ++ fe (x.1.2.1).2) ++ (fe (x.1.2.2).1 ++ fe (x.1.2.2).2))) ++ ((fe (x.2.1).1 ++ fe (x.2.1).2) ++ ((fe (x.2.2.1).1 ++ fe (x.2.2.1).2) ++ (fe (x.2.2.2).1 ++ fe (x.2.2.2).2)))).map U64).toArray
theorem zv49 (w : World) : (zeroValue 49).run Tryz.prog w = .ok (.agg ((((fe 0 ++ fe 0) ++ ((fe 0 ++ fe 0) ++ (fe 0 ++ fe 0))) ++ ((fe 0 ++ fe 0) ++ ((fe 0 ++ fe 0) ++ (fe 0 ++ fe 0)))).map U64).toArray) w := by rw [kF]; exact (Tryz.zeroValue49 w).trans (by rfl)
theorem rZ : Two Tryz.prog 49 ⟨ "C0", 47, 0, false, "", "", 0⟩ ⟨ "C1", 47, 36, false, "", "", 288⟩ 36 36 ((fe 0 ++ fe 0) ++ ((fe 0 ++ fe 0) ++ (fe 0 ++ fe 0))) ((fe 0 ++ fe 0) ++ ((fe 0 ++ fe 0) ++ (fe 0 ++ fe 0))) := ⟨Tryz.underlying49, rfl, rfl, Tryz.sizeOf47, Tryz.sizeOf47, zv49, by simp, by simp⟩
theorem e12 {a b a' b' : W6} (h1 : a = a') (h2 : b = b') : Ending.returned (bu (a, b)) = .returned (bu (a', b')) := by rw [h1, h2]
theorem qu {x y : W12} (h : x.1 = y.1) : decide (x.2 = y.2) = decide (x = y) := decide_eq_decide.2 ⟨fun e => Prod.ext h e, fun e => by rw [e]⟩
theorem q7 {x y : W12} (h : ¬ x.1 = y.1) : false = decide (x = y) := (decide_eq_false fun e => h (by rw [e])).symm
def p12 (x : W12) : Nat → W2
 | 0 => x.1.1
 | 1 => x.2.1
 | 2 => x.1.2.1
 | 3 => x.2.2.1
 | 4 => x.1.2.2
 | _ => x.2.2.2
def q12 : Sh W12 := q6.two q6 6
theorem V12 (x : W12) : bu x = dn rid (.inl [x.1.1.1, x.1.1.2, x.1.2.1.1, x.1.2.1.2, x.1.2.2.1, x.1.2.2.2, x.2.1.1, x.2.1.2, x.2.2.1.1, x.2.2.1.2, x.2.2.2.1, x.2.2.2.2]) := by
 show Value.agg _ = Value.agg _
 rw [clv, show cel [x.1.1.1, x.1.1.2, x.1.2.1.1, x.1.2.1.2, x.1.2.2.1, x.1.2.2.2, x.2.1.1, x.2.1.2, x.2.2.1.1, x.2.2.1.2, x.2.2.2.1, x.2.2.2.2] = fe x.1.1.1 ++ (fe x.1.1.2 ++ (fe x.1.2.1.1 ++ (fe x.1.2.1.2 ++ (fe x.1.2.2.1 ++ (fe x.1.2.2.2 ++ (fe x.2.1.1 ++ (fe x.2.1.2 ++ (fe x.2.2.1.1 ++ (fe x.2.2.1.2 ++ (fe x.2.2.2.1 ++ fe x.2.2.2.2)))))))))) from rfl]
 simp only [List.append_assoc]
end Q6
end
section
open Go.RowKit
namespace Q6
attribute [local simp] aL ba aI aH aB bc aF aE aG PLl cf cb N1l ca bY ce aR a9 aJ aW a5 bQ
theorem rW2 {Q P : Prop} (k : Q) (h : Q → P := by intro k; (refine LY.run ?_); (repeat (first | refine bK rfl rfl rfl ?_ | refine bk rfl rfl rfl ?_ | ((refine ym rfl rfl ?_ rfl rfl rfl rfl ?_); (· simp)) | ((refine yF rfl rfl ?_ ?_ rfl rfl rfl rfl ?_); (· simp); (· simp)) | ((refine El rfl rfl ?_ rfl rfl ?_); (· simp)) | ((refine Fq hGF rfl rfl rfl ?_ ?_ (ak _) rfl ?_); (· simp); (· simp)) | ((refine o8 hGF rfl rfl rfl ?_ ?_ (ak _) rfl ?_); (· simp); (· simp)) | refine bP (f := 90) rfl rfl ent90 (v8 _ _) rfl rfl ?_ | refine bP (f := 91) rfl rfl ent91 (uU _ _) rfl rfl ?_ | refine bP (f := 93) rfl rfl ent93 (ve _ _) rfl rfl ?_ | refine bP (f := 92) rfl rfl ent92 (k6v _) rfl rfl ?_ | refine bP (f := 177) rfl rfl ent177 (kS _) rfl rfl ?_ | refine fD rfl rfl rfl rfl rfl ?_)); (first | refine cn ?_ | refine LY.mk ?_); exact k) : P := h k
theorem pW2 {Q P : Prop} (k : Q) (h : Q → P := by intro k; (refine xp ?_); (refine rW2 ?_); exact k) : P := h k
attribute [local simp] iQ cK
theorem iy  : Pure Tryz.prog Gt 22 [] (bu K12.one) := (bx rfl (V12 _) (pE TO51 Tryz.func22 [] (.inl (.inl [K12.one.1.1.1, K12.one.1.1.2, K12.one.1.2.1.1, K12.one.1.2.1.2, K12.one.1.2.2.1, K12.one.1.2.2.2, K12.one.2.1.1, K12.one.2.1.2, K12.one.2.2.1.1, K12.one.2.2.1.2, K12.one.2.2.2.1, K12.one.2.2.2.2])) (let t0 := K6.one; (.inl (.inl [t0.1.1, t0.1.2, t0.2.1.1, t0.2.1.2, t0.2.2.1, t0.2.2.2, 0, 0, 0, 0, 0, 0]), [])) [] (by kernel_rfl) aT rfl))
theorem tb {f : Nat} {g : W12} (en : ae Tryz.prog f) (h : Pure Tryz.prog Gt f [] (bu g)) : Snd Tryz.prog Gt f (c0 q12.rd g) := nf q12.rd en (bx rfl (V12 _).symm h)
def TO52 : Tb Tryz.prog Gt := TO51.add (tb (g := K12.one) ent22 iy)
theorem gq (x y : W12) : Pure Tryz.prog Gt 33 [bu x, bu y] (.bool (decide (x = y))) := by
 intro w hw
 have hGF : BOk Gt (pl w) := gt_low.plain hw
 by_cases h : x.1 = y.1
 ·skip
  refine aN (G := Gt) Tryz.func33 rfl rfl (Hp (pl w) []) (aZ (pl w) trivial ai) (ap hGF) ?_
  refine xp ?_
  refine lb fun b2 => ?_
  refine lb fun b3 => ?_
  refine rW2 ?_
  refine pW2 ?_
  refine eo true rfl rfl ent84 (jz _ _) (decide_eq_true h) rfl rfl ?_
  refine rW2 ?_
  refine lc ent84 (jz _ _) ?_
  refine rW2 ?_
  refine rt ?_
  exact aV rfl rfl (fun w hw => ⟨rb (qu h), ac hw⟩)
 ·skip
  refine aN (G := Gt) Tryz.func33 rfl rfl (Hp (pl w) []) (aZ (pl w) trivial ai) (ap hGF) ?_
  refine xp ?_
  refine lb fun b2 => ?_
  refine lb fun b3 => ?_
  refine rW2 ?_
  refine pW2 ?_
  refine eo false rfl rfl ent84 (jz _ _) (decide_eq_false h) rfl rfl ?_
  refine rW2 ?_
  refine aU rfl rfl rfl ?_
  refine aU rfl rfl rfl ?_
  refine aU rfl rfl rfl ?_
  refine aU rfl rfl rfl ?_
  refine aU rfl rfl rfl ?_
  refine rW2 ?_
  refine rt ?_
  exact aV rfl rfl (fun w hw => ⟨rb (q7 h), ac hw⟩)
theorem fh {f : Nat} {g : W12 → W12 → Bool} (en : ae Tryz.prog f) (h : ∀ a b, Pure Tryz.prog Gt f [bu a, bu b] (.bool (g a b))) : Snd Tryz.prog Gt f (c2 q12.ag q12.ag rdB g) := dJ q12.ag q12.ag rdB en (fun a b => bx (l2 (V12 _).symm (V12 _).symm) rfl (h a b))
def TO53 : Tb Tryz.prog Gt := TO52.add (fh (g := fun x y => decide (x = y)) ent33 gq)
theorem iI (x : W12) : Pure Tryz.prog Gt 26 [bu x] (.bool (decide (x = K12.zero))) := by
 intro w hw
 have hGF : BOk Gt (pl w) := gt_low.plain hw
 by_cases h : x.1 = K6.zero
 ·skip
  refine aN (G := Gt) Tryz.func26 rfl rfl (Hp (pl w) []) (aZ (pl w) trivial ai) (ap hGF) ?_
  refine xp ?_
  refine lb fun b1 => ?_
  refine rW2 ?_
  refine pW2 ?_
  refine eo true rfl rfl ent76 (hH _) (decide_eq_true h) rfl rfl ?_
  refine rW2 ?_
  refine lc ent76 (hH _) ?_
  refine rW2 ?_
  refine rt ?_
  exact aV rfl rfl (fun w hw => ⟨rb (qu (y := K12.zero) h), ac hw⟩)
 ·skip
  refine aN (G := Gt) Tryz.func26 rfl rfl (Hp (pl w) []) (aZ (pl w) trivial ai) (ap hGF) ?_
  refine xp ?_
  refine lb fun b1 => ?_
  refine rW2 ?_
  refine pW2 ?_
  refine eo false rfl rfl ent76 (hH _) (decide_eq_false h) rfl rfl ?_
  refine rW2 ?_
  refine aU rfl rfl rfl ?_
  refine aU rfl rfl rfl ?_
  refine aU rfl rfl rfl ?_
  refine rW2 ?_
  refine rt ?_
  exact aV rfl rfl (fun w hw => ⟨rb (q7 (y := K12.zero) h), ac hw⟩)
theorem kg {f : Nat} {g : W12 → Bool} (en : ae Tryz.prog f) (h : ∀ a, Pure Tryz.prog Gt f [bu a] (.bool (g a))) : Snd Tryz.prog Gt f (c1 q12.ag rdB g) := ei q12.ag rdB en (fun a => bx (l1 (V12 _).symm) rfl (h a))
def TO54 : Tb Tryz.prog Gt := TO53.add (kg (g := fun x => decide (x = K12.zero)) ent26 iI)
theorem jp (x : W12) : Pure Tryz.prog Gt 41 [bu x] (bu (bq x)) := (bx (l1 (V12 _)) (V12 _) (pE TO54 Tryz.func41 [.inl [x.1.1.1, x.1.1.2, x.1.2.1.1, x.1.2.1.2, x.1.2.2.1, x.1.2.2.2, x.2.1.1, x.2.1.2, x.2.2.1.1, x.2.2.1.2, x.2.2.2.1, x.2.2.2.2]] (.inl (.inl [(bq x).1.1.1, (bq x).1.1.2, (bq x).1.2.1.1, (bq x).1.2.1.2, (bq x).1.2.2.1, (bq x).1.2.2.2, (bq x).2.1.1, (bq x).2.1.2, (bq x).2.2.1.1, (bq x).2.2.1.2, (bq x).2.2.2.1, (bq x).2.2.2.2])) (let t0 := K6.neg ((x.2.1.1, x.2.1.2), (x.2.2.1.1, x.2.2.1.2), (x.2.2.2.1, x.2.2.2.2)); (.inl (.inl [x.1.1.1, x.1.1.2, x.1.2.1.1, x.1.2.1.2, x.1.2.2.1, x.1.2.2.2, t0.1.1, t0.1.2, t0.2.1.1, t0.2.1.2, t0.2.2.1, t0.2.2.2]), [])) [] (by kernel_rfl) aT rfl))
theorem ck {f : Nat} {g : W12 → W12} (en : ae Tryz.prog f) (h : ∀ a, Pure Tryz.prog Gt f [bu a] (bu (g a))) : Snd Tryz.prog Gt f (c1 q12.ag q12.rd g) := ei q12.ag q12.rd en (fun a => bx (l1 (V12 _).symm) (V12 _).symm (h a))
def TO55 : Tb Tryz.prog Gt := TO54.add (ck (g := bq) ent41 jp)
theorem v4 (x y : W12) : Pure Tryz.prog Gt 35 [bu x, bu y] (bu (K12.mul x y)) := by
 refine a7 Tryz.func35 fun w hw hGF => ?_
 refine xp ?_
 refine lb fun b2 => ?_
 refine lb fun b3 => ?_
 refine la zv49 fun b4 => ?_
 refine aa ?_
 refine cg (E := EE [2999999]) [0, 1, 2, 3, 4, 5, 6, 7, 8, 9] [⟨10, 5, 47, ((fe 0 ++ fe 0) ++ ((fe 0 ++ fe 0) ++ (fe 0 ++ fe 0))).map U64⟩, ⟨11, 6, 47, ((fe 0 ++ fe 0) ++ ((fe 0 ++ fe 0) ++ (fe 0 ++ fe 0))).map U64⟩] [12, 13] bi rfl (by kernel_rfl) (by kernel_rfl) (by kernel_rfl) (by kernel_rfl) (by kernel_rfl) (by kernel_rfl) (by decide) (by intro x hx; simp only [List.mem_cons, List.not_mem_nil, or_false] at hx; rcases hx with rfl | rfl <;> exact bB rfl zv47 rfl) ?_
 refine rW2 ?_
 refine ⟨_, _, rfl, hGF, by intro x hx; simp only [List.mem_cons, List.not_mem_nil, or_false] at hx; rcases hx with rfl | rfl <;> rfl, by intro x hx; simp only [List.mem_cons, List.not_mem_nil, or_false] at hx; rcases hx with rfl | rfl <;> rfl, fun adr => ?_⟩
 refine rW2 ?_
 refine cg (E := EE [2999999]) [0, 1, 2, 3, 4, 5, 6, 7, 8, 9, 10] [⟨11, 7, 47, ((fe 0 ++ fe 0) ++ ((fe 0 ++ fe 0) ++ (fe 0 ++ fe 0))).map U64⟩] [12] bi rfl (by kernel_rfl) (by kernel_rfl) (by kernel_rfl) (by kernel_rfl) (by kernel_rfl) (by kernel_rfl) (by decide) (by intro x hx; simp only [List.mem_cons, List.not_mem_nil, or_false] at hx; subst hx; exact bB rfl zv47 rfl) ?_
 refine rW2 ?_
 refine ⟨_, _, rfl, hGF, by intro x hx; simp only [List.mem_cons, List.not_mem_nil, or_false] at hx; subst hx; rfl, by intro x hx; simp only [List.mem_cons, List.not_mem_nil, or_false] at hx; subst hx; rfl, fun adr => ?_⟩
 refine rW2 ?_
 refine bl (E := EE []) bi (by kernel_rfl) (by kernel_rfl) (by kernel_rfl) ?_
 refine rW2 ?_
 refine dw rZ rfl rfl (by simp) (by simp) rfl rfl ?_
 refine rW2 ?_
 refine rt ?_
 exact aw 4 rfl rfl rfl Tryz.isAgg49 Tryz.sizeOf49 (by simp) (fun w hw => ⟨e12 (zq K6 [x.1, x.2, y.1, y.2, VV] (ta (tm j0 j2) (tvv 4 (tm j1 j3) rfl)) (ta (tm j0 j2) (tm j4 (tm j1 j3)))) (zq K6 [x.1, x.2, y.1, y.2, VV] (td (td (tm (ta j0 j1) (ta j2 j3)) (tm j0 j2)) (tm j1 j3)) (ta (tm j0 j3) (tm j1 j2))), ac hw⟩)
theorem gN {f : Nat} {g : W12 → W12 → W12} (en : ae Tryz.prog f) (h : ∀ a b, Pure Tryz.prog Gt f [bu a, bu b] (bu (g a b))) : Snd Tryz.prog Gt f (c2 q12.ag q12.ag q12.rd g) := dJ q12.ag q12.ag q12.rd en (fun a b => bx (l2 (V12 _).symm (V12 _).symm) (V12 _).symm (h a b))
theorem gC (x : W12) : Pure Tryz.prog Gt 82 [bu x] (bu (K12.mul x x)) := by
 refine a7 Tryz.func82 fun w hw hGF => ?_
 refine xp ?_
 refine lb fun b1 => ?_
 refine la zv49 fun b2 => ?_
 refine aa ?_
 refine pW2 ?_
 refine la zv47 fun b3 => ?_
 refine rW2 ?_
 refine cg (E := EE [2999999]) [0, 1, 2, 3, 4, 5, 6, 7, 8, 9, 10, 11] [⟨12, 4, 47, ((fe 0 ++ fe 0) ++ ((fe 0 ++ fe 0) ++ (fe 0 ++ fe 0))).map U64⟩] [13] bi rfl (by kernel_rfl) (by kernel_rfl) (by kernel_rfl) (by kernel_rfl) (by kernel_rfl) (by kernel_rfl) (by decide) (by intro x hx; simp only [List.mem_cons, List.not_mem_nil, or_false] at hx; subst hx; exact bB rfl zv47 rfl) ?_
 refine rW2 ?_
 refine ⟨_, _, rfl, hGF, by intro x hx; simp only [List.mem_cons, List.not_mem_nil, or_false] at hx; subst hx; rfl, by intro x hx; simp only [List.mem_cons, List.not_mem_nil, or_false] at hx; subst hx; rfl, fun adr => ?_⟩
 refine rW2 ?_
 refine bl (E := EE []) bi (by kernel_rfl) (by kernel_rfl) (by kernel_rfl) ?_
 refine rW2 ?_
 refine dw rZ rfl rfl (by simp) (by simp) rfl rfl ?_
 refine rW2 ?_
 refine rt ?_
 exact aw 2 rfl rfl rfl Tryz.isAgg49 Tryz.sizeOf49 (by simp) (fun w hw => ⟨e12 (zq K6 [x.1, x.2, VV] (td (td (tm (ta j0 j1) (ta j0 (tvv 2 j1 rfl))) (tm j0 j1)) (tvv 2 (tm j0 j1) rfl)) (ta (tm j0 j0) (tm j2 (tm j1 j1)))) (zq K6 [x.1, x.2, VV] (ta (tm j0 j1) (tm j0 j1)) (ta (tm j0 j1) (tm j1 j0))), ac hw⟩)
theorem AP (x : W12) : sb6 (K6.mul x.1 x.1) (v6 (K6.mul x.2 x.2)) = qnm K6 VV x := zq K6 [x.1, x.2, VV] (td (tm j0 j0) (tvv 2 (tm j1 j1) rfl)) (ta (tm j0 j0) (tn (tm j2 (tm j1 j1))))
theorem GT (x : W12) (n : W6) : K6.mul x.1 n = K6.add (K6.mul x.1 n) (K6.mul VV (K6.mul (K6.neg x.2) K6.zero)) := zq K6 [x.1, x.2, n, VV] (tm j0 j2) (ta (tm j0 j2) (tm j3 (tm (tn j1) tz0)))
theorem Fi (x : W12) (n : W6) : K6.neg (K6.mul x.2 n) = K6.add (K6.mul x.1 K6.zero) (K6.mul (K6.neg x.2) n) := zq K6 [x.1, x.2, n] (tn (tm j1 j2)) (ta (tm j0 tz0) (tm (tn j1) j2))
theorem DX (x : W12) : Pure Tryz.prog Gt 134 [bu x] (bu (ff x)) := by
 refine a7 Tryz.func134 fun w hw hGF => ?_
 refine xp ?_
 refine lb fun b1 => ?_
 refine la zv49 fun b2 => ?_
 refine aa ?_
 refine cg (E := EE [2999999]) [0, 1, 2, 3, 4, 5, 6, 7] [⟨8, 3, 47, ((fe 0 ++ fe 0) ++ ((fe 0 ++ fe 0) ++ (fe 0 ++ fe 0))).map U64⟩] [9] bi rfl (by kernel_rfl) (by kernel_rfl) (by kernel_rfl) (by kernel_rfl) (by kernel_rfl) (by kernel_rfl) (by decide) (by intro x hx; simp only [List.mem_cons, List.not_mem_nil, or_false] at hx; subst hx; exact bB rfl zv47 rfl) ?_
 refine rW2 ?_
 refine ⟨_, _, rfl, hGF, by intro x hx; simp only [List.mem_cons, List.not_mem_nil, or_false] at hx; subst hx; rfl, by intro x hx; simp only [List.mem_cons, List.not_mem_nil, or_false] at hx; subst hx; rfl, fun adr => ?_⟩
 refine rW2 ?_
 refine pW2 ?_
 refine lc ent178 (wW _) ?_
 refine la zv47 fun b4 => ?_
 refine rW2 ?_
 refine bl (E := EE []) bi (by kernel_rfl) (by kernel_rfl) (by kernel_rfl) ?_
 refine rW2 ?_
 refine lc ent99 (wv _) ?_
 refine dw rZ rfl rfl (by simp) (by simp) rfl rfl ?_
 refine rW2 ?_
 refine rt ?_
 exact aw 2 rfl rfl rfl Tryz.isAgg49 Tryz.sizeOf49 (by simp) (fun w hw => ⟨by rw [AP]; exact e12 (GT _ _) (Fi _ _), ac hw⟩)
end Q6
end
section
open Go.RowKit
namespace Q6
attribute [local simp] aL ba aI aH aB bc aF aE aG PLl cf cb N1l ca bY ce aR a9 aJ aW a5 bQ
attribute [local simp] iQ cK
end Q6
end
section
open Go.RowKit
theorem ent195 : ae Tryz.prog 195 := fun _ _ => by kernel_rfl
namespace Q6
attribute [local simp] aL ba aI aH aB bc aF aE aG PLl cf cb N1l ca bY ce aR a9 aJ aW a5 bQ
theorem rW7 {Q P : Prop} (k : Q) (h : Q → P := by intro k; (refine LY.run ?_); (repeat (first | refine bK rfl rfl rfl ?_ | refine bk rfl rfl rfl ?_ | ((refine vm rfl rfl ?_ rfl rfl ?_); (· simp)) | ((refine o8 hGF rfl rfl rfl ?_ ?_ (ak _) rfl ?_); (· simp); (· simp)) | ((refine GG hGF rfl rfl rfl ?_ ?_ (ak _) rfl ?_); (· simp); (· simp)))); (first | refine cn ?_ | refine LY.mk ?_); exact k) : P := h k
theorem pW7 {Q P : Prop} (k : Q) (h : Q → P := by intro k; (refine xp ?_); (refine rW7 ?_); exact k) : P := h k
attribute [local simp] iQ cK
theorem zv192 (w : World) : (zeroValue 192).run Tryz.prog w = .ok (.agg ((FM (FF fun _ => ze2) 6).map U64).toArray) w := by
 rw [n6]; exact (Tryz.zeroValue192 w).trans (by rfl)
abbrev TV6 (f : Nat → W2) : Value := .agg ((FM (FF f) 6).map U64).toArray
theorem Cn (f z : Nat → List (BitVec 64)) : ∀ i, i < 6 → sw f [0, 1, 2, 3, 4, 5] z i = f i := fun i hi => qs _ _ _ _ (.inl (by
 match i, hi with
 | 0, _ => decide
 | 1, _ => decide
 | 2, _ => decide
 | 3, _ => decide
 | 4, _ => decide
 | 5, _ => decide))
theorem xl (x : W12) : Pure Tryz.prog Gt 196 [bu x] (TV6 (p12 x)) := by
 refine a7 Tryz.func196 fun w hw hGF => ?_
 refine xp ?_
 refine lb fun b1 => ?_
 refine la zv192 fun b2 => ?_
 refine aa ?_
 refine xp ?_
 refine bR 0 rfl Tryz.underlying49 rfl Tryz.sizeOf47 (by decide) rfl rfl rfl ?_
 refine bR 0 rfl Tryz.underlying47 rfl Tryz.sizeOf33 (by decide) rfl rfl rfl ?_
 refine a8 1 _ rfl rfl Tryz.isAgg33 Tryz.sizeOf33 (by simp) (uO m8) rfl rfl ?_
 refine bR 36 rfl Tryz.underlying49 rfl Tryz.sizeOf47 (by decide) rfl rfl rfl ?_
 refine bR 36 rfl Tryz.underlying47 rfl Tryz.sizeOf33 (by decide) rfl rfl rfl ?_
 refine a8 1 _ rfl rfl Tryz.isAgg33 Tryz.sizeOf33 (by simp) (qc (m := 36) (o := 0) (by simp) rfl m8) rfl rfl ?_
 refine bR 0 rfl Tryz.underlying49 rfl Tryz.sizeOf47 (by decide) rfl rfl rfl ?_
 refine bR 12 rfl Tryz.underlying47 rfl Tryz.sizeOf33 (by decide) rfl rfl rfl ?_
 refine a8 1 _ rfl rfl Tryz.isAgg33 Tryz.sizeOf33 (by simp) (uO (BR (by simp))) rfl rfl ?_
 refine bR 36 rfl Tryz.underlying49 rfl Tryz.sizeOf47 (by decide) rfl rfl rfl ?_
 refine bR 48 rfl Tryz.underlying47 rfl Tryz.sizeOf33 (by decide) rfl rfl rfl ?_
 refine a8 1 _ rfl rfl Tryz.isAgg33 Tryz.sizeOf33 (by simp) (qc (m := 36) (o := 12) (by simp) rfl (BR (m := 12) (by simp))) rfl rfl ?_
 refine bR 0 rfl Tryz.underlying49 rfl Tryz.sizeOf47 (by decide) rfl rfl rfl ?_
 refine bR 24 rfl Tryz.underlying47 rfl Tryz.sizeOf33 (by decide) rfl rfl rfl ?_
 refine a8 1 _ rfl rfl Tryz.isAgg33 Tryz.sizeOf33 (by simp) (uO (ua (m := 12) (n := 12) (by simp) (by simp) rfl)) rfl rfl ?_
 refine bR 36 rfl Tryz.underlying49 rfl Tryz.sizeOf47 (by decide) rfl rfl rfl ?_
 refine bR 60 rfl Tryz.underlying47 rfl Tryz.sizeOf33 (by decide) rfl rfl rfl ?_
 refine a8 1 _ rfl rfl Tryz.isAgg33 Tryz.sizeOf33 (by simp) (qc (m := 36) (o := 24) (by simp) rfl (ua (m := 12) (n := 12) (by simp) (by simp) rfl)) rfl rfl ?_
 refine vT (s := 12) (FF (p12 x)) (FF (p12 x)) [0, 1, 2, 3, 4, 5] rfl rfl rfl (fun i _ => aJ _) Tryz.underlying192 Tryz.sizeOf33 zv192 (Cn _ _) rfl rfl ?_
 refine rW7 ?_
 refine rt ?_
 exact aw 2 rfl rfl rfl Tryz.isAgg192 Tryz.sizeOf192 (by simp) (fun w hw => ⟨rfl, ac hw⟩)
theorem EF (f : Nat → W2) : Pure Tryz.prog Gt 176 [TV6 f] (bu (tq f)) := by
 refine a7 Tryz.func176 fun w hw hGF => ?_
 refine xp ?_
 refine lb fun b1 => ?_
 refine la zv49 fun b2 => ?_
 refine aa ?_
 refine xp ?_
 refine cZ (0) (12 * (0)) rfl rfl Tryz.underlying192 Tryz.sizeOf33 (by omega) (by omega) (by omega) rfl rfl ?_
 refine a8 1 ((fe (f 0).1 ++ fe (f 0).2).map U64) rfl rfl Tryz.isAgg33 Tryz.sizeOf33 (by simp) (dy _ (f 0) 6 (0) _ (by omega) rfl (rfl)) rfl rfl ?_
 refine cZ (2) (12 * (2)) rfl rfl Tryz.underlying192 Tryz.sizeOf33 (by omega) (by omega) (by omega) rfl rfl ?_
 refine a8 1 ((fe (f 2).1 ++ fe (f 2).2).map U64) rfl rfl Tryz.isAgg33 Tryz.sizeOf33 (by simp) (dy _ (f 2) 6 (2) _ (by omega) rfl (rfl)) rfl rfl ?_
 refine cZ (4) (12 * (4)) rfl rfl Tryz.underlying192 Tryz.sizeOf33 (by omega) (by omega) (by omega) rfl rfl ?_
 refine a8 1 ((fe (f 4).1 ++ fe (f 4).2).map U64) rfl rfl Tryz.isAgg33 Tryz.sizeOf33 (by simp) (dy _ (f 4) 6 (4) _ (by omega) rfl (rfl)) rfl rfl ?_
 refine dH iq rfl rfl rfl (by simp) (by simp) (by simp) rfl rfl ?_
 refine cZ (1) (12 * (1)) rfl rfl Tryz.underlying192 Tryz.sizeOf33 (by omega) (by omega) (by omega) rfl rfl ?_
 refine a8 1 ((fe (f 1).1 ++ fe (f 1).2).map U64) rfl rfl Tryz.isAgg33 Tryz.sizeOf33 (by simp) (dy _ (f 1) 6 (1) _ (by omega) rfl (rfl)) rfl rfl ?_
 refine cZ (3) (12 * (3)) rfl rfl Tryz.underlying192 Tryz.sizeOf33 (by omega) (by omega) (by omega) rfl rfl ?_
 refine a8 1 ((fe (f 3).1 ++ fe (f 3).2).map U64) rfl rfl Tryz.isAgg33 Tryz.sizeOf33 (by simp) (dy _ (f 3) 6 (3) _ (by omega) rfl (rfl)) rfl rfl ?_
 refine cZ (5) (12 * (5)) rfl rfl Tryz.underlying192 Tryz.sizeOf33 (by omega) (by omega) (by omega) rfl rfl ?_
 refine a8 1 ((fe (f 5).1 ++ fe (f 5).2).map U64) rfl rfl Tryz.isAgg33 Tryz.sizeOf33 (by simp) (dy _ (f 5) 6 (5) _ (by omega) rfl (rfl)) rfl rfl ?_
 refine dH iq rfl rfl rfl (by simp) (by simp) (by simp) rfl rfl ?_
 refine dw rZ rfl rfl (by simp) (by simp) rfl rfl ?_
 refine rW7 ?_
 refine rt ?_
 exact aw 2 rfl rfl rfl Tryz.isAgg49 Tryz.sizeOf49 (by simp) (fun w hw => ⟨rfl, ac hw⟩)
theorem jR (x : W12) (w : World) (hw : Gt w) : Calls Tryz.prog 175 [bu x].toArray w (fun e w' => ∃ b1, e = .returned (.func (.func 195) #[] #[.pointer (some ⟨b1, 0, none⟩)]) ∧ Grow w w' ∧ w.heap.size ≤ b1 ∧ OwnB w' b1 ((((fe (x.1.1).1 ++ fe (x.1.1).2) ++ ((fe (x.1.2.1).1 ++ fe (x.1.2.1).2) ++ (fe (x.1.2.2).1 ++ fe (x.1.2.2).2))) ++ ((fe (x.2.1).1 ++ fe (x.2.1).2) ++ ((fe (x.2.2.1).1 ++ fe (x.2.2.1).2) ++ (fe (x.2.2.2).1 ++ fe (x.2.2.2).2)))).map U64) 49) := by
 have hGF : BOk Gt (pl w) := gt_low.plain hw
 refine aN (G := Gt) Tryz.func175 rfl rfl (Hp (pl w) []) (aZ (pl w) trivial ai) (ap hGF) ?_
 refine xp ?_
 refine lb fun b1 => ?_
 refine rW7 ?_
 refine xp ?_
 refine ib rfl rfl rfl rfl ?_
 refine rW7 ?_
 refine rt ?_
 exact aV rfl rfl (fun w hw => ⟨b1, rfl, ac hw, (hw.own 1 b1 _ _ rfl).2.elim id False.elim, (hw.own 1 b1 _ _ rfl).1⟩)
def sU (x : W12) : List (List Value) := (List.range 6).map fun (k : Nat) => [I (k : Int), EV2 (p12 x k)]
theorem jV (x : W12) : (sU x).length = 6 := by rw [sU, List.length_map, List.length_range]
theorem nP (x : W12) (k : Nat) (h : k < 6) : (sU x)[k]? = some [I (k : Int), EV2 (p12 x k)] := by
 rw [sU, List.getElem?_map, List.getElem?_range h]; rfl
theorem xA (x : W12) (k : Nat) (v : List Value) (h : (sU x)[k]? = some v) : k < 6 ∧ v = [I (k : Int), EV2 (p12 x k)] := by
 have hk : k < 6 := by
  rcases Nat.lt_or_ge k 6 with hk | hk
  ·exact hk
  ·rw [List.getElem?_eq_none (by rw [jV]; exact hk)] at h; cases h
 exact ⟨hk, (Option.some.inj ((nP x k hk).symm.trans h)).symm⟩
def Am (bb : Nat) (x : W12) : Cls := fun w => w.rangeAt bb 0 ((((fe (x.1.1).1 ++ fe (x.1.1).2) ++ ((fe (x.1.2.1).1 ++ fe (x.1.2.1).2) ++ (fe (x.1.2.2).1 ++ fe (x.1.2.2).2))) ++ ((fe (x.2.1).1 ++ fe (x.2.1).2) ++ ((fe (x.2.2.1).1 ++ fe (x.2.2.1).2) ++ (fe (x.2.2.2).1 ++ fe (x.2.2.2).2)))).map U64)
theorem CY (bb : Nat) (x : W12) : fO Tryz.prog Gt 195 [.pointer (some ⟨bb, 0, none⟩)] (sU x) (Am bb x) := by
 intro l J Jx hJ hJx hRd hGx hY w hj
 have okJ : ∀ k, BOk Gt (Bi w (fun Y => J Y k)) := fun k => ⟨fun _ _ _ h => (hRd _ _ _ h.rid).1, hJ k⟩
 have okX : ∀ k, BOk Gt (Bi w (fun Y => Jx Y k)) := fun k => ⟨fun _ _ _ h => hGx _ _ _ h.rid, hJx k⟩
 have c1 : ∀ k L w', Hp (Bi w (fun Y => J Y k)) L w' → Am bb x w' := fun k L w' h => (hRd _ _ _ h.rid).2
 refine aN (G := Gt) Tryz.func195 rfl rfl (Hp (Bi w (fun Y => J Y 0)) []) (aZ (Bi w _) hj (hJ 0)) (ap (okJ 0)) ?_
 refine xp ?_
 refine dK rfl Tryz.isAgg49 Tryz.sizeOf49 (by simp) (fun w h => c1 _ _ w h) rfl rfl ?_
 refine lc ent196 (xl _) ?_
 refine rW7 ?_
 refine am ?_
 refine iC (ι := { i : Nat // i ≤ 6 }) (fun y => [(0, .func (.yield l) #[] #[]), (1, .pointer (some ⟨bb, 0, none⟩)), (6, TV6 (p12 x)), (7, I (y.1 : Int))]) (fun y => Bi w (fun Y => J Y y.1)) (fun y => []) (fun y => 6 - y.1) ⟨0, Nat.zero_le _⟩ (fun _ => okJ _) rfl ⟨rfl, rfl, rfl, rfl, trivial⟩ trivial ?_
 rintro ⟨i, hi⟩
 dsimp only
 refine xp ?_
 refine ah rfl rfl (fun _ => rfl) (fun _ => aA _ _ _) rfl rfl ?_
 refine aa ?_
 refine aj ?_
 refine bZ rfl (fun hc => ?_) (fun hc => ?_)
 ·have hi2 : i < 6 := by simp at hc; omega
  refine aD ?_
  refine aj ?_
  refine am ?_
  refine pW7 ?_
  refine rW (FF (p12 x)) (i) rfl rfl Tryz.underlying192 Tryz.sizeOf33 Tryz.isAgg33 (by omega) (by omega) (aJ _) rfl rfl ?_
  refine bM 4 (okJ _) zv33 rfl rfl ?_
  intro b4
  refine rW7 ?_
  refine ao 4 (okJ _) rfl rfl rfl Tryz.sizeOf33 (by simp) (by simp) (ak _) rfl ?_
  refine aa ?_
  refine pW7 ?_
  refine ej (hY.b (k := i) (nP x i (by omega)) w) (okJ _) (okX _) rfl rfl rfl rfl rfl ?_ ?_
  ·skip
   refine bH rfl (fun _ => bt _) rfl rfl ?_
   refine aa ?_
   refine bg rfl ?_
   refine aD ?_
   refine av (E := EE []) ?_
   refine ah rfl rfl (fun _ => rfl) (fun _ => aO _ _ _ (by unfold inI; omega)) rfl rfl ?_
   refine rW7 ?_
   repeat (refine a6 ?_)
   refine bC ?_
   exact ⟨rfl, ⟨i + 1, by omega⟩, _, by show 6 - (i + 1) < 6 - i; omega, rfl, ⟨rfl, rfl, rfl, rfl, trivial⟩, trivial⟩
  ·skip
   refine bH rfl (fun _ => bt _) rfl rfl ?_
   refine aa ?_
   refine bF rfl ?_
   refine rt ?_
   repeat (first | refine ep ?_ | refine bX ?_ | refine eB rfl ?_ | refine aQ ?_ | refine aP ?_)
   exact dv rfl (fun w hw => ⟨⟨_, rfl⟩, .inr ⟨_, cv (hJx _) hw.rid⟩⟩)
 ·obtain rfl : i = 6 := by simp at hc; omega
  refine bf ?_
  repeat (first | refine ep ?_ | refine bX ?_ | refine eB rfl ?_ | refine aQ ?_ | refine aP ?_)
  refine dY rfl (fun w hw => ⟨⟨_, rfl⟩, .inl ?_⟩)
  have := cv (hJ _) hw.rid
  rw [jV]
  exact this
end Q6
end
section
open Go.RowKit
namespace Q6
attribute [local simp] aL ba aI aH aB bc aF aE aG PLl cf cb N1l ca bY ce aR a9 aJ aW a5 bQ
theorem eV {Q P : Prop} (k : Q) (h : Q → P := by intro k; (refine LY.run ?_); (repeat (first | refine bK rfl rfl rfl ?_ | refine bk rfl rfl rfl ?_ | ((refine vm rfl rfl ?_ rfl rfl ?_); (· simp)) | ((refine nZ rfl rfl ?_ rfl rfl ?_); (· simp)) | ((refine vS rfl rfl ?_ rfl rfl ?_); (· simp)) | ((refine FK rfl rfl ?_ rfl rfl ?_); (· simp)) | ((refine xU hGF rfl rfl rfl ?_ ?_ (ak _) rfl ?_); (· simp); (· simp)) | ((refine oX hGF rfl rfl rfl ?_ ?_ (ak _) rfl ?_); (· simp); (· simp)) | refine go rfl rfl rfl rfl ?_ | refine bP (f := 107) rfl rfl ent107 (tl) rfl rfl ?_ | refine bP (f := 171) rfl rfl ent171 (tX _) rfl rfl ?_)); (first | refine cn ?_ | refine LY.mk ?_); exact k) : P := h k
attribute [local simp] iQ cK
theorem oq (e : Option Addr) (cap : Nat) (w : World) (hw : Gt w) (hby : BytesAt w e SXB) :
  Calls Tryz.prog 46 [.slice e SXB.length cap].toArray w (fun r w' => r = .returned (.tuple #[EV SR, .bool (FO SXB)]) ∧ Grow w w') := by
 have h := eI e cap SXB w hw hby
 rw [Cf] at h
 exact h
theorem F9 {m : Nat} (h : m % 2 = 1) (y : W2) (k : Nat) : frq y m k = ml2 (cj2 y) (pw2 (GV m) k) := by rw [frq, cjn, if_pos h]
theorem G1 {m : Nat} (h : ¬ m % 2 = 1) (y : W2) (k : Nat) : frq y m k = ml2 y (pw2 (GV m) k) := by rw [frq, cjn, if_neg h]
theorem GV_s (i : Nat) : GV (i + 1) = ml2 (cj2 (GV i)) ((SR, -SR) : W2) := by rw [F8]; rfl
theorem uy (n : Nat) (hn : n ≤ 1000) : Pure Tryz.prog Gt 174 [I (n : Int)] (EV2 (GV n)) := by
 refine a7 Tryz.func174 fun w hw hGF => ?_
 refine ab (E := EE [1000022]) ?_
 refine la zv33 fun b2 => ?_
 refine aa ?_
 refine ab (E := EE [1000022]) ?_
 refine oV 8 SXB hGF rfl rfl rfl (by decide) (by decide) Tryz.underlying22 Tryz.sizeOf5 Tryz.zeroValue5 rfl rfl ?_
 intro b8
 refine qa 8 rfl hGF rfl rfl Tryz.underlying22 Tryz.underlying5 rfl rfl ?_
 refine bz rfl rfl ent46 (fun w' hC hG => oq _ _ w' hG (BytesAt.range (hC.own 8 b8 _ _ rfl).1.range)) rfl rfl ?_
 refine eV ?_
 refine la zv27 fun b3 => ?_
 refine eV ?_
 refine cg (E := EE [1000022, 2999999]) [0, 1, 2, 3] [⟨4, 5, 33, (fe 0 ++ fe 0).map U64⟩] [5] bi rfl (by kernel_rfl) (by kernel_rfl) (by kernel_rfl) (by kernel_rfl) (by kernel_rfl) (by kernel_rfl) (by decide) (by intro x hx; simp only [List.mem_cons, List.not_mem_nil, or_false] at hx; subst hx; exact bB rfl zv33 rfl) ?_
 refine eV ?_
 refine lc ent100 (lJ _) ?_
 refine dw vC rfl rfl (by simp) (by simp) rfl rfl ?_
 refine aa ?_
 refine ⟨_, _, rfl, hGF, by intro x hx; simp only [List.mem_cons, List.not_mem_nil, or_false] at hx; subst hx; rfl, by intro x hx; simp only [List.mem_cons, List.not_mem_nil, or_false] at hx; subst hx; rfl, fun adr => ?_⟩
 refine eV ?_
 refine ab (E := EE [1000022]) ?_
 refine eV ?_
 refine la zv33 fun b6 => ?_
 refine eV ?_
 refine aj ?_
 refine ab (E := EE [1000022]) ?_
 refine eV ?_
 refine am ?_
 refine cp (ι := { i : Nat // i ≤ n }) (fun y => [(0, I (n : Int)), (2, .pointer (some ⟨b2, 0, none⟩)), (3, .pointer (some ⟨b3, 0, none⟩)), (5, .pointer (some ⟨(adr 5), 0, none⟩)), (6, .pointer (some ⟨b6, 0, none⟩)), (18, I (n : Int)), (19, I (y.1 : Int))]) (fun y => [(2, b2, (fe 0 ++ fe 0).map U64, 33), (3, b3, (fe SR).map U64, 27), (5, adr 5, (fe SR ++ fe (-SR)).map U64, 33), (6, b6, (fe (GV y.1).1 ++ fe (GV y.1).2).map U64, 33)]) (fun y => n - y.1) ⟨0, Nat.zero_le _⟩ hGF ⟨rfl, rfl, rfl, rfl, rfl, rfl, rfl, trivial⟩ ⟨rfl, rfl, rfl, rfl, trivial⟩ ?_
 rintro ⟨i, hi⟩
 dsimp only
 refine ab (E := EE [1000022]) ?_
 refine ah rfl rfl (fun _ => rfl) (fun _ => aA _ _ _) rfl rfl ?_
 refine aa ?_
 refine aj ?_
 refine bZ rfl (fun hc => ?_) (fun hc => ?_)
 ·simp only [decide_eq_true_eq] at hc
  refine aD ?_
  refine aj ?_
  refine am ?_
  refine c9 (E := EE [1000022]) bi (by kernel_rfl) (by kernel_rfl) (by kernel_rfl) ?_
  refine eV ?_
  refine az rfl rfl ent130 (kT (cj2 (GV i)) ((SR, -SR) : W2)) rfl rfl ?_
  refine eV ?_
  refine av (E := EE [1000022]) ?_
  refine ah rfl rfl (fun _ => rfl) (fun _ => aO _ _ _ (by unfold inI; omega)) rfl rfl ?_
  refine eV ?_
  repeat (refine a6 ?_)
  refine bC ?_
  exact ⟨rfl, ⟨i + 1, by omega⟩, _, by show n - (i + 1) < n - i; omega, rfl, ⟨rfl, rfl, rfl, rfl, rfl, rfl, rfl, trivial⟩, ⟨rfl, rfl, rfl, by rw [GV_s i]; rfl, trivial⟩⟩
 ·obtain rfl : n = i := by simp at hc; omega
  refine bf ?_
  refine ab (E := EE [1000022]) ?_
  refine eV ?_
  refine rt ?_
  exact aw 2 rfl rfl rfl Tryz.isAgg33 Tryz.sizeOf33 (by simp) (fun w hw => ⟨rfl, ac hw⟩)
theorem qU (x : W12) (n : Int) : Pure Tryz.prog Gt 132 [bu x, I n] (bu (fH x (n % 12).toNat)) := by
 intro w hw
 have hGF : BOk Gt (pl w) := gt_low.plain hw
 obtain ⟨m, hm⟩ : ∃ m : Nat, (n % 12).toNat = m := ⟨_, rfl⟩
 have hm6 : m < 12 := by omega
 rw [hm, rh]
 refine bE (G := Gt) Tryz.func132 rfl rfl (Hp (pl w) []) (aZ (pl w) trivial ai) (ap hGF) ?_
 refine ab (E := EE [175]) ?_
 refine lb fun b2 => ?_
 refine kI 3 hGF rfl rfl rfl ?_
 intro b3
 refine la zv49 fun b4 => ?_
 refine aa ?_
 refine ab (E := EE [175]) ?_
 refine bT 3 rfl rfl rfl Tryz.isAgg3 rfl rfl ?_
 refine ah (v := I (n.tmod 12)) rfl rfl (fun _ => rfl) (fun _ => dZ _ _ _ (by decide)) rfl rfl ?_
 refine ah (v := I (n.tmod 12 + 12)) rfl rfl (fun _ => rfl) (fun _ => aO _ _ _ (vJ n)) rfl rfl ?_
 refine ah (v := I (m : Int)) rfl rfl (fun _ => rfl) (fun _ => (dZ _ _ _ (by decide)).trans (by rw [Ew, hm])) rfl rfl ?_
 refine cu 3 hGF rfl rfl rfl Tryz.sizeOf3 rfl (by show 0 < 1; decide) rfl ?_
 refine aa ?_
 refine ab (E := EE [175]) ?_
 refine bT 3 rfl rfl rfl Tryz.isAgg3 rfl rfl ?_
 refine az rfl rfl ent174 (uy m (by omega)) rfl rfl ?_
 refine eV ?_
 refine la zv33 fun b5 => ?_
 refine la zv33 fun b6 => ?_
 refine eV ?_
 refine ab (E := EE [175]) ?_
 refine la zv192 fun b7 => ?_
 refine aa ?_
 refine aj ?_
 refine ab (E := EE [175]) ?_
 refine eV ?_
 refine cz rfl rfl ent175 rfl rfl (fun w' hw' => (jR x w' (hGF.g _ _ _ hw')).mono fun e' w'' h => ?_)
 obtain ⟨c1, rfl, hg, h1, ho⟩ := h
 refine ⟨_, _, rfl, ap hGF, hw'.news ai hg [(33, c1, (((fe (x.1.1).1 ++ fe (x.1.1).2) ++ ((fe (x.1.2.1).1 ++ fe (x.1.2.1).2) ++ (fe (x.1.2.2).1 ++ fe (x.1.2.2).2))) ++ ((fe (x.2.1).1 ++ fe (x.2.1).2) ++ ((fe (x.2.2.1).1 ++ fe (x.2.2.1).2) ++ (fe (x.2.2.2).1 ++ fe (x.2.2.2).2)))).map U64, 49)] ?_ di, ?_⟩
 ·intro n' b' c' t' hl
  rcases bh hl with ⟨_, e⟩ | ⟨_, hl⟩
  ·cases e; exact ⟨h1, ho⟩
  ·cases hl
 clear hw' hg h1 ho
 refine aa ?_
 refine am ?_
 refine db (fun _ => pl w) (fun _ _ => pl w) (fun _ => hGF) (fun _ _ => hGF) (fun _ => rfl) (fun _ _ => rfl) rfl rfl ent195 (CY c1 x) (fun v hv => by obtain ⟨k, hk, rfl⟩ := List.mem_map.1 hv; rfl) rfl (fun k => [(2, b2, (((fe (x.1.1).1 ++ fe (x.1.1).2) ++ ((fe (x.1.2.1).1 ++ fe (x.1.2.1).2) ++ (fe (x.1.2.2).1 ++ fe (x.1.2.2).2))) ++ ((fe (x.2.1).1 ++ fe (x.2.1).2) ++ ((fe (x.2.2.1).1 ++ fe (x.2.2.1).2) ++ (fe (x.2.2.2).1 ++ fe (x.2.2.2).2)))).map U64, 49), (3, b3, [I (m : Int)], 3), (4, b4, (((fe 0 ++ fe 0) ++ ((fe 0 ++ fe 0) ++ (fe 0 ++ fe 0))) ++ ((fe 0 ++ fe 0) ++ ((fe 0 ++ fe 0) ++ (fe 0 ++ fe 0)))).map U64, 49), (5, b5, (fe (GV m).1 ++ fe (GV m).2).map U64, 33), (6, b6, (fe (pw2 (GV m) k).1 ++ fe (pw2 (GV m) k).2).map U64, 33), (7, b7, (FM (FF (fun j => if j < k then frq (p12 x j) m j else ze2)) 6).map U64, 192), (33, c1, (((fe (x.1.1).1 ++ fe (x.1.1).2) ++ ((fe (x.1.2.1).1 ++ fe (x.1.2.1).2) ++ (fe (x.1.2.2).1 ++ fe (x.1.2.2).2))) ++ ((fe (x.2.1).1 ++ fe (x.2.1).2) ++ ((fe (x.2.2.1).1 ++ fe (x.2.2.1).2) ++ (fe (x.2.2.2).1 ++ fe (x.2.2.2).2)))).map U64, 49)]) (fun _ _ _ => False) ⟨rfl, rfl, rfl, rfl, rfl, congrArg (fun l => some (b7, l, _)) (congrArg (List.map U64) (nH fun j _ => (if_neg (Nat.not_lt_zero j)).symm)), rfl, trivial⟩ (fun k _ w' h => cx (n := 33) rfl w' h) ?_ ?_ (fun _ _ _ _ _ h => h.elim)
 ·intro k v hx R hR
  obtain ⟨hk, rfl⟩ := xA x k v hx
  refine ab (E := EE [175]) ?_
  refine eV ?_
  refine av (E := EE [175]) ?_
  refine bM 9 (hR (pl w) rfl hGF).1 zv33 rfl rfl ?_
  intro b9
  refine ao 9 (hR (pl w) rfl hGF).1 rfl rfl rfl Tryz.sizeOf33 (by simp) (by simp) (ak _) rfl ?_
  refine aa ?_
  refine ⟨rfl, _, rfl, ?_⟩
  refine am ?_
  refine aj ?_
  refine ab (E := EE [175]) ?_
  refine bT 3 rfl rfl rfl Tryz.isAgg3 rfl rfl ?_
  refine ah (v := I ((m % 2 : Nat) : Int)) rfl rfl (fun _ => rfl) (fun _ => dZ _ _ _ (by decide)) rfl rfl ?_
  refine ah rfl rfl (fun _ => rfl) (fun _ => sg _ _ _) rfl rfl ?_
  refine aa ?_
  refine bZ rfl (fun hc => ?_) (fun hc => ?_)
  ·have hp : m % 2 = 1 := by simp at hc; omega
   refine av (E := EE [175]) ?_
   refine eV ?_
   refine ao 9 (hR (pl w) rfl hGF).2.1 rfl rfl rfl Tryz.sizeOf33 (by simp) (by simp) (ak _) rfl ?_
   refine aa ?_
   refine ab (E := EE [175]) ?_
   refine eV ?_
   refine lc ent130 (kT _ _) ?_
   refine cZ (k) (12 * (k)) rfl rfl Tryz.underlying192 Tryz.sizeOf33 (by omega) (by omega) (by omega) rfl rfl ?_
   refine gy 7 ((FM (FF (fun j => if j < k + 1 then frq (p12 x j) m j else ze2)) 6).map U64) (hR (pl w) rfl hGF).2.1 rfl rfl rfl Tryz.sizeOf33 (by simp) (ak _) (by simp; omega) (my _ _ (ml2 (cj2 (p12 x k)) (pw2 (GV m) k)) 6 (k) _ (by omega) rfl (fun j _ => by rw [← F9 hp]; exact p5 (fun j => frq (p12 x j) m j) (fun _ => ze2) k j)) rfl ?_
   refine aa ?_
   refine av (E := EE [175]) ?_
   refine eV ?_
   refine lc ent130 (kT _ _) ?_
   refine ao 6 (hR (pl w) rfl hGF).2.1 rfl rfl rfl Tryz.sizeOf33 (by simp) (by simp) (ak _) rfl ?_
   refine aa ?_
   repeat (refine a6 ?_)
   exact ⟨_, rfl, ⟨rfl, rfl, rfl, rfl, rfl, rfl, rfl, trivial⟩⟩
  ·have hp : ¬ m % 2 = 1 := by simp at hc; omega
   refine aD ?_
   refine ab (E := EE [175]) ?_
   refine eV ?_
   refine lc ent130 (kT _ _) ?_
   refine cZ (k) (12 * (k)) rfl rfl Tryz.underlying192 Tryz.sizeOf33 (by omega) (by omega) (by omega) rfl rfl ?_
   refine gy 7 ((FM (FF (fun j => if j < k + 1 then frq (p12 x j) m j else ze2)) 6).map U64) (hR (pl w) rfl hGF).2.1 rfl rfl rfl Tryz.sizeOf33 (by simp) (ak _) (by simp; omega) (my _ _ (ml2 (p12 x k) (pw2 (GV m) k)) 6 (k) _ (by omega) rfl (fun j _ => by rw [← G1 hp]; exact p5 (fun j => frq (p12 x j) m j) (fun _ => ze2) k j)) rfl ?_
   refine aa ?_
   refine av (E := EE [175]) ?_
   refine eV ?_
   refine lc ent130 (kT _ _) ?_
   refine ao 6 (hR (pl w) rfl hGF).2.1 rfl rfl rfl Tryz.sizeOf33 (by simp) (by simp) (ak _) rfl ?_
   refine aa ?_
   repeat (refine a6 ?_)
   exact ⟨_, rfl, ⟨rfl, rfl, rfl, rfl, rfl, rfl, rfl, trivial⟩⟩
 ·intro D hD
  rw [jV]
  refine ab (E := EE [175]) ?_
  refine eV ?_
  refine lc ent176 (EF _) ?_
  refine ao 4 hD rfl rfl rfl Tryz.sizeOf49 (by simp) (by simp) (ak _) rfl ?_
  refine aa ?_
  refine rt ?_
  exact cr (.inl rfl) ai (aw 4 rfl rfl rfl Tryz.isAgg49 Tryz.sizeOf49 (by simp) (fun w hw => ⟨e12 rfl rfl, ac hw⟩))
end Q6
end
end Go.Proofs.YtpnpiblphnpfiaaGreatDoor
