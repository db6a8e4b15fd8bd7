/-
 Elements of fp12 as values; what the laws of layer 7 share.
 The walks of package fp12.
 The walks of package fp12: powers.
 The walks of package fp12: its parts.
 The walks of package fp12: powers of p.
-/
import Derived.Test.YtpnpiblphnpfiaaGreatDoorXE
import Derived.Test.YtpnpiblphnpfiaaGreatDoorX3
import Derived.Test.YtpnpiblphnpfiaaGreatDoorXJ
import Derived.Test.YtpnpiblphnpfiaaGreatDoorX5
set_option maxRecDepth 100000
set_option maxHeartbeats 1000000
namespace Go.Proofs.YtpnpiblphnpfiaaGreatDoor
section
open Go.RowKit
theorem ent132 : ae Tryz.prog 132 := fun _ _ => by kernel_rfl
theorem ent174 : ae Tryz.prog 174 := fun _ _ => by kernel_rfl
theorem ent35 : ae Tryz.prog 35 := fun _ _ => by kernel_rfl
theorem ent196 : ae Tryz.prog 196 := fun _ _ => by kernel_rfl
theorem ent26 : ae Tryz.prog 26 := fun _ _ => by kernel_rfl
theorem ent176 : ae Tryz.prog 176 := fun _ _ => by kernel_rfl
theorem ent22 : ae Tryz.prog 22 := fun _ _ => by kernel_rfl
theorem ent134 : ae Tryz.prog 134 := fun _ _ => by kernel_rfl
theorem ent82 : ae Tryz.prog 82 := fun _ _ => by kernel_rfl
theorem ent33 : ae Tryz.prog 33 := fun _ _ => by kernel_rfl
theorem ent41 : ae Tryz.prog 41 := fun _ _ => by kernel_rfl
theorem ent175 : ae Tryz.prog 175 := fun _ _ => by kernel_rfl
namespace Q6
attribute [local simp] aL a7 aI aH aB a8 aF aE aG PLl bY cb N1l ce bX bZ aU ba aK aW a5 bP
attribute [local simp] iG db
abbrev bv (x : W12) : Value := .agg ((((fe (x.1.1).1 ++ fe (x.1.1).2) ++ ((fe (x.1.2.1).1 ++ fe (x.1.2.1).2) ++ (fe (x.1.2.2).1 ++ fe (x.1.2.2).2))) ++ ((fe (x.2.1).1 ++ fe (x.2.1).2) ++ ((fe (x.2.2.1).1 ++ fe (x.2.2.1).2) ++ (fe (x.2.2.2).1 ++ fe (x.2.2.2).2)))).map U64).toArray
theorem zv49 (w : World) : (zeroValue 49).run Tryz.prog w = .ok (.agg ((((fe 0 ++ fe 0) ++ ((fe 0 ++ fe 0) ++ (fe 0 ++ fe 0))) ++ ((fe 0 ++ fe 0) ++ ((fe 0 ++ fe 0) ++ (fe 0 ++ fe 0)))).map U64).toArray) w := by rw [kf]; exact (Tryz.zeroValue49 w).trans (by rfl)
theorem rj : Two Tryz.prog 49 ⟨ "C0", 47, 0, false, "", "", 0⟩ ⟨ "C1", 47, 36, false, "", "", 288⟩ 36 36 ((fe 0 ++ fe 0) ++ ((fe 0 ++ fe 0) ++ (fe 0 ++ fe 0))) ((fe 0 ++ fe 0) ++ ((fe 0 ++ fe 0) ++ (fe 0 ++ fe 0))) := ⟨Tryz.underlying49, rfl, rfl, Tryz.sizeOf47, Tryz.sizeOf47, zv49, by simp, by simp⟩
theorem e12 {a b a' b' : W6} (h1 : a = a') (h2 : b = b') : Ending.returned (bv (a, b)) = .returned (bv (a', b')) := by rw [h1, h2]
theorem qC {x y : W12} (h : x.1 = y.1) : decide (x.2 = y.2) = decide (x = y) := decide_eq_decide.2 ⟨fun e => Prod.ext h e, fun e => by rw [e]⟩
theorem rD {x y : W12} (h : ¬ x.1 = y.1) : false = decide (x = y) := (decide_eq_false fun e => h (by rw [e])).symm
def p12 (x : W12) : Nat → W2
 | 0 => x.1.1
 | 1 => x.2.1
 | 2 => x.1.2.1
 | 3 => x.2.2.1
 | 4 => x.1.2.2
 | _ => x.2.2.2
def q12 : Sh W12 := q6.two q6 6
theorem V12 (x : W12) : bv x = dn rid (.inl [x.1.1.1, x.1.1.2, x.1.2.1.1, x.1.2.1.2, x.1.2.2.1, x.1.2.2.2, x.2.1.1, x.2.1.2, x.2.2.1.1, x.2.2.1.2, x.2.2.2.1, x.2.2.2.2]) := by
 show Value.agg _ = Value.agg _
 rw [clv, show cel [x.1.1.1, x.1.1.2, x.1.2.1.1, x.1.2.1.2, x.1.2.2.1, x.1.2.2.2, x.2.1.1, x.2.1.2, x.2.2.1.1, x.2.2.1.2, x.2.2.2.1, x.2.2.2.2] = fe x.1.1.1 ++ (fe x.1.1.2 ++ (fe x.1.2.1.1 ++ (fe x.1.2.1.2 ++ (fe x.1.2.2.1 ++ (fe x.1.2.2.2 ++ (fe x.2.1.1 ++ (fe x.2.1.2 ++ (fe x.2.2.1.1 ++ (fe x.2.2.1.2 ++ (fe x.2.2.2.1 ++ fe x.2.2.2.2)))))))))) from rfl]
 simp only [List.append_assoc]
end Q6
end
section
open Go.RowKit
namespace Q6
attribute [local simp] aL a7 aI aH aB a8 aF aE aG PLl bY cb N1l ce bX bZ aU ba aK aW a5 bP
theorem rW2 {Q P : Prop} (k : Q) (h : Q → P := by intro k; (refine LY.run ?_); (repeat (first | refine bM rfl rfl rfl ?_ | refine bj rfl rfl rfl ?_ | ((refine xf rfl rfl ?_ rfl rfl rfl rfl ?_); (· simp)) | ((refine xI rfl rfl ?_ ?_ rfl rfl rfl rfl ?_); (· simp); (· simp)) | ((refine Gc rfl rfl ?_ rfl rfl ?_); (· simp)) | ((refine EN hGF rfl rfl rfl ?_ ?_ (ak _) rfl ?_); (· simp); (· simp)) | ((refine o9 hGF rfl rfl rfl ?_ ?_ (ak _) rfl ?_); (· simp); (· simp)) | refine bR (f := 90) rfl rfl ent90 (tD _ _) rfl rfl ?_ | refine bR (f := 91) rfl rfl ent91 (vU _ _) rfl rfl ?_ | refine bR (f := 93) rfl rfl ent93 (vb _ _) rfl rfl ?_ | refine bR (f := 92) rfl rfl ent92 (k6v _) rfl rfl ?_ | refine bR (f := 177) rfl rfl ent177 (k4 _) rfl rfl ?_ | refine fD rfl rfl rfl rfl rfl ?_)); (first | refine cm ?_ | refine LY.mk ?_); exact k) : P := h k
theorem pW2 {Q P : Prop} (k : Q) (h : Q → P := by intro k; (refine xp ?_); (refine rW2 ?_); exact k) : P := h k
attribute [local simp] iG db
theorem iE  : Pure Tryz.prog Gt 22 [] (bv K12.one) := (bx rfl (V12 _) (pE TO51 Tryz.func22 [] (.inl (.inl [K12.one.1.1.1, K12.one.1.1.2, K12.one.1.2.1.1, K12.one.1.2.1.2, K12.one.1.2.2.1, K12.one.1.2.2.2, K12.one.2.1.1, K12.one.2.1.2, K12.one.2.2.1.1, K12.one.2.2.1.2, K12.one.2.2.2.1, K12.one.2.2.2.2])) (let t0 := K6.one; (.inl (.inl [t0.1.1, t0.1.2, t0.2.1.1, t0.2.1.2, t0.2.2.1, t0.2.2.2, 0, 0, 0, 0, 0, 0]), [])) [] (by kernel_rfl) aR rfl))
theorem uV {f : Nat} {g : W12} (en : ae Tryz.prog f) (h : Pure Tryz.prog Gt f [] (bv g)) : Snd Tryz.prog Gt f (c0 q12.rd g) := m9 q12.rd en (bx rfl (V12 _).symm h)
def TO52 : Tb Tryz.prog Gt := TO51.add (uV (g := K12.one) ent22 iE)
theorem fX (x y : W12) : Pure Tryz.prog Gt 33 [bv x, bv y] (.bool (decide (x = y))) := by
 intro w hw
 have hGF : BOk Gt (pl w) := gt_low.plain hw
 by_cases h : x.1 = y.1
 ·skip
  refine aN (G := Gt) Tryz.func33 rfl rfl (Hp (pl w) []) (aZ (pl w) trivial ai) (ap hGF) ?_
  refine xp ?_
  refine lb fun b2 => ?_
  refine lb fun b3 => ?_
  refine rW2 ?_
  refine pW2 ?_
  refine eh true rfl rfl ent84 (jp _ _) (decide_eq_true h) rfl rfl ?_
  refine rW2 ?_
  refine lc ent84 (jp _ _) ?_
  refine rW2 ?_
  refine rt ?_
  exact aV rfl rfl (fun w hw => ⟨rb (qC h), ac hw⟩)
 ·skip
  refine aN (G := Gt) Tryz.func33 rfl rfl (Hp (pl w) []) (aZ (pl w) trivial ai) (ap hGF) ?_
  refine xp ?_
  refine lb fun b2 => ?_
  refine lb fun b3 => ?_
  refine rW2 ?_
  refine pW2 ?_
  refine eh false rfl rfl ent84 (jp _ _) (decide_eq_false h) rfl rfl ?_
  refine rW2 ?_
  refine aT rfl rfl rfl ?_
  refine aT rfl rfl rfl ?_
  refine aT rfl rfl rfl ?_
  refine aT rfl rfl rfl ?_
  refine aT rfl rfl rfl ?_
  refine rW2 ?_
  refine rt ?_
  exact aV rfl rfl (fun w hw => ⟨rb (rD h), ac hw⟩)
theorem fh {f : Nat} {g : W12 → W12 → Bool} (en : ae Tryz.prog f) (h : ∀ a b, Pure Tryz.prog Gt f [bv a, bv b] (.bool (g a b))) : Snd Tryz.prog Gt f (c2 q12.ag q12.ag rdB g) := dM q12.ag q12.ag rdB en (fun a b => bx (l2 (V12 _).symm (V12 _).symm) rfl (h a b))
def TO53 : Tb Tryz.prog Gt := TO52.add (fh (g := fun x y => decide (x = y)) ent33 fX)
theorem iO (x : W12) : Pure Tryz.prog Gt 26 [bv x] (.bool (decide (x = K12.zero))) := by
 intro w hw
 have hGF : BOk Gt (pl w) := gt_low.plain hw
 by_cases h : x.1 = K6.zero
 ·skip
  refine aN (G := Gt) Tryz.func26 rfl rfl (Hp (pl w) []) (aZ (pl w) trivial ai) (ap hGF) ?_
  refine xp ?_
  refine lb fun b1 => ?_
  refine rW2 ?_
  refine pW2 ?_
  refine eh true rfl rfl ent76 (hH _) (decide_eq_true h) rfl rfl ?_
  refine rW2 ?_
  refine lc ent76 (hH _) ?_
  refine rW2 ?_
  refine rt ?_
  exact aV rfl rfl (fun w hw => ⟨rb (qC (y := K12.zero) h), ac hw⟩)
 ·skip
  refine aN (G := Gt) Tryz.func26 rfl rfl (Hp (pl w) []) (aZ (pl w) trivial ai) (ap hGF) ?_
  refine xp ?_
  refine lb fun b1 => ?_
  refine rW2 ?_
  refine pW2 ?_
  refine eh false rfl rfl ent76 (hH _) (decide_eq_false h) rfl rfl ?_
  refine rW2 ?_
  refine aT rfl rfl rfl ?_
  refine aT rfl rfl rfl ?_
  refine aT rfl rfl rfl ?_
  refine rW2 ?_
  refine rt ?_
  exact aV rfl rfl (fun w hw => ⟨rb (rD (y := K12.zero) h), ac hw⟩)
theorem ko {f : Nat} {g : W12 → Bool} (en : ae Tryz.prog f) (h : ∀ a, Pure Tryz.prog Gt f [bv a] (.bool (g a))) : Snd Tryz.prog Gt f (c1 q12.ag rdB g) := d9 q12.ag rdB en (fun a => bx (l1 (V12 _).symm) rfl (h a))
def TO54 : Tb Tryz.prog Gt := TO53.add (ko (g := fun x => decide (x = K12.zero)) ent26 iO)
theorem ju (x : W12) : Pure Tryz.prog Gt 41 [bv x] (bv (bt x)) := (bx (l1 (V12 _)) (V12 _) (pE TO54 Tryz.func41 [.inl [x.1.1.1, x.1.1.2, x.1.2.1.1, x.1.2.1.2, x.1.2.2.1, x.1.2.2.2, x.2.1.1, x.2.1.2, x.2.2.1.1, x.2.2.1.2, x.2.2.2.1, x.2.2.2.2]] (.inl (.inl [(bt x).1.1.1, (bt x).1.1.2, (bt x).1.2.1.1, (bt x).1.2.1.2, (bt x).1.2.2.1, (bt x).1.2.2.2, (bt x).2.1.1, (bt x).2.1.2, (bt x).2.2.1.1, (bt x).2.2.1.2, (bt x).2.2.2.1, (bt x).2.2.2.2])) (let t0 := K6.neg ((x.2.1.1, x.2.1.2), (x.2.2.1.1, x.2.2.1.2), (x.2.2.2.1, x.2.2.2.2)); (.inl (.inl [x.1.1.1, x.1.1.2, x.1.2.1.1, x.1.2.1.2, x.1.2.2.1, x.1.2.2.2, t0.1.1, t0.1.2, t0.2.1.1, t0.2.1.2, t0.2.2.1, t0.2.2.2]), [])) [] (by kernel_rfl) aR rfl))
theorem ci {f : Nat} {g : W12 → W12} (en : ae Tryz.prog f) (h : ∀ a, Pure Tryz.prog Gt f [bv a] (bv (g a))) : Snd Tryz.prog Gt f (c1 q12.ag q12.rd g) := d9 q12.ag q12.rd en (fun a => bx (l1 (V12 _).symm) (V12 _).symm (h a))
def TO55 : Tb Tryz.prog Gt := TO54.add (ci (g := bt) ent41 ju)
theorem tS (x y : W12) : Pure Tryz.prog Gt 35 [bv x, bv y] (bv (K12.mul x y)) := by
 refine a9 Tryz.func35 fun w hw hGF => ?_
 refine xp ?_
 refine lb fun b2 => ?_
 refine lb fun b3 => ?_
 refine la zv49 fun b4 => ?_
 refine aa ?_
 refine cf (E := EE [2999999]) [0, 1, 2, 3, 4, 5, 6, 7, 8, 9] [⟨10, 5, 47, ((fe 0 ++ fe 0) ++ ((fe 0 ++ fe 0) ++ (fe 0 ++ fe 0))).map U64⟩, ⟨11, 6, 47, ((fe 0 ++ fe 0) ++ ((fe 0 ++ fe 0) ++ (fe 0 ++ fe 0))).map U64⟩] [12, 13] bi rfl (by kernel_rfl) (by kernel_rfl) (by kernel_rfl) (by kernel_rfl) (by kernel_rfl) (by kernel_rfl) (by decide) (by intro x hx; simp only [List.mem_cons, List.not_mem_nil, or_false] at hx; rcases hx with rfl | rfl <;> exact bB rfl zv47 rfl) ?_
 refine rW2 ?_
 refine ⟨_, _, rfl, hGF, by intro x hx; simp only [List.mem_cons, List.not_mem_nil, or_false] at hx; rcases hx with rfl | rfl <;> rfl, by intro x hx; simp only [List.mem_cons, List.not_mem_nil, or_false] at hx; rcases hx with rfl | rfl <;> rfl, fun adr => ?_⟩
 refine rW2 ?_
 refine cf (E := EE [2999999]) [0, 1, 2, 3, 4, 5, 6, 7, 8, 9, 10] [⟨11, 7, 47, ((fe 0 ++ fe 0) ++ ((fe 0 ++ fe 0) ++ (fe 0 ++ fe 0))).map U64⟩] [12] bi rfl (by kernel_rfl) (by kernel_rfl) (by kernel_rfl) (by kernel_rfl) (by kernel_rfl) (by kernel_rfl) (by decide) (by intro x hx; simp only [List.mem_cons, List.not_mem_nil, or_false] at hx; subst hx; exact bB rfl zv47 rfl) ?_
 refine rW2 ?_
 refine ⟨_, _, rfl, hGF, by intro x hx; simp only [List.mem_cons, List.not_mem_nil, or_false] at hx; subst hx; rfl, by intro x hx; simp only [List.mem_cons, List.not_mem_nil, or_false] at hx; subst hx; rfl, fun adr => ?_⟩
 refine rW2 ?_
 refine bk (E := EE []) bi (by kernel_rfl) (by kernel_rfl) (by kernel_rfl) ?_
 refine rW2 ?_
 refine dp rj rfl rfl (by simp) (by simp) rfl rfl ?_
 refine rW2 ?_
 refine rt ?_
 exact aw 4 rfl rfl rfl Tryz.isAgg49 Tryz.sizeOf49 (by simp) (fun w hw => ⟨e12 (zq K6 [x.1, x.2, y.1, y.2, VV] (ta (tm j0 j2) (tvv 4 (tm j1 j3) rfl)) (ta (tm j0 j2) (tm j4 (tm j1 j3)))) (zq K6 [x.1, x.2, y.1, y.2, VV] (wu (wu (tm (ta j0 j1) (ta j2 j3)) (tm j0 j2)) (tm j1 j3)) (ta (tm j0 j3) (tm j1 j2))), ac hw⟩)
theorem gV {f : Nat} {g : W12 → W12 → W12} (en : ae Tryz.prog f) (h : ∀ a b, Pure Tryz.prog Gt f [bv a, bv b] (bv (g a b))) : Snd Tryz.prog Gt f (c2 q12.ag q12.ag q12.rd g) := dM q12.ag q12.ag q12.rd en (fun a b => bx (l2 (V12 _).symm (V12 _).symm) (V12 _).symm (h a b))
theorem gE (x : W12) : Pure Tryz.prog Gt 82 [bv x] (bv (K12.mul x x)) := by
 refine a9 Tryz.func82 fun w hw hGF => ?_
 refine xp ?_
 refine lb fun b1 => ?_
 refine la zv49 fun b2 => ?_
 refine aa ?_
 refine pW2 ?_
 refine la zv47 fun b3 => ?_
 refine rW2 ?_
 refine cf (E := EE [2999999]) [0, 1, 2, 3, 4, 5, 6, 7, 8, 9, 10, 11] [⟨12, 4, 47, ((fe 0 ++ fe 0) ++ ((fe 0 ++ fe 0) ++ (fe 0 ++ fe 0))).map U64⟩] [13] bi rfl (by kernel_rfl) (by kernel_rfl) (by kernel_rfl) (by kernel_rfl) (by kernel_rfl) (by kernel_rfl) (by decide) (by intro x hx; simp only [List.mem_cons, List.not_mem_nil, or_false] at hx; subst hx; exact bB rfl zv47 rfl) ?_
 refine rW2 ?_
 refine ⟨_, _, rfl, hGF, by intro x hx; simp only [List.mem_cons, List.not_mem_nil, or_false] at hx; subst hx; rfl, by intro x hx; simp only [List.mem_cons, List.not_mem_nil, or_false] at hx; subst hx; rfl, fun adr => ?_⟩
 refine rW2 ?_
 refine bk (E := EE []) bi (by kernel_rfl) (by kernel_rfl) (by kernel_rfl) ?_
 refine rW2 ?_
 refine dp rj rfl rfl (by simp) (by simp) rfl rfl ?_
 refine rW2 ?_
 refine rt ?_
 exact aw 2 rfl rfl rfl Tryz.isAgg49 Tryz.sizeOf49 (by simp) (fun w hw => ⟨e12 (zq K6 [x.1, x.2, VV] (wu (wu (tm (ta j0 j1) (ta j0 (tvv 2 j1 rfl))) (tm j0 j1)) (tvv 2 (tm j0 j1) rfl)) (ta (tm j0 j0) (tm j2 (tm j1 j1)))) (zq K6 [x.1, x.2, VV] (ta (tm j0 j1) (tm j0 j1)) (ta (tm j0 j1) (tm j1 j0))), ac hw⟩)
theorem C4 (x : W12) : sb6 (K6.mul x.1 x.1) (v6 (K6.mul x.2 x.2)) = qnm K6 VV x := zq K6 [x.1, x.2, VV] (wu (tm j0 j0) (tvv 2 (tm j1 j1) rfl)) (ta (tm j0 j0) (tn (tm j2 (tm j1 j1))))
theorem FH (x : W12) (n : W6) : K6.mul x.1 n = K6.add (K6.mul x.1 n) (K6.mul VV (K6.mul (K6.neg x.2) K6.zero)) := zq K6 [x.1, x.2, n, VV] (tm j0 j2) (ta (tm j0 j2) (tm j3 (tm (tn j1) tz0)))
theorem G2 (x : W12) (n : W6) : K6.neg (K6.mul x.2 n) = K6.add (K6.mul x.1 K6.zero) (K6.mul (K6.neg x.2) n) := zq K6 [x.1, x.2, n] (tn (tm j1 j2)) (ta (tm j0 tz0) (tm (tn j1) j2))
theorem Cz (x : W12) : Pure Tryz.prog Gt 134 [bv x] (bv (fl x)) := by
 refine a9 Tryz.func134 fun w hw hGF => ?_
 refine xp ?_
 refine lb fun b1 => ?_
 refine la zv49 fun b2 => ?_
 refine aa ?_
 refine cf (E := EE [2999999]) [0, 1, 2, 3, 4, 5, 6, 7] [⟨8, 3, 47, ((fe 0 ++ fe 0) ++ ((fe 0 ++ fe 0) ++ (fe 0 ++ fe 0))).map U64⟩] [9] bi rfl (by kernel_rfl) (by kernel_rfl) (by kernel_rfl) (by kernel_rfl) (by kernel_rfl) (by kernel_rfl) (by decide) (by intro x hx; simp only [List.mem_cons, List.not_mem_nil, or_false] at hx; subst hx; exact bB rfl zv47 rfl) ?_
 refine rW2 ?_
 refine ⟨_, _, rfl, hGF, by intro x hx; simp only [List.mem_cons, List.not_mem_nil, or_false] at hx; subst hx; rfl, by intro x hx; simp only [List.mem_cons, List.not_mem_nil, or_false] at hx; subst hx; rfl, fun adr => ?_⟩
 refine rW2 ?_
 refine pW2 ?_
 refine lc ent178 (vS _) ?_
 refine la zv47 fun b4 => ?_
 refine rW2 ?_
 refine bk (E := EE []) bi (by kernel_rfl) (by kernel_rfl) (by kernel_rfl) ?_
 refine rW2 ?_
 refine lc ent99 (uk _) ?_
 refine dp rj rfl rfl (by simp) (by simp) rfl rfl ?_
 refine rW2 ?_
 refine rt ?_
 exact aw 2 rfl rfl rfl Tryz.isAgg49 Tryz.sizeOf49 (by simp) (fun w hw => ⟨by rw [C4]; exact e12 (FH _ _) (G2 _ _), ac hw⟩)
end Q6
end
section
open Go.RowKit
namespace Q6
attribute [local simp] aL a7 aI aH aB a8 aF aE aG PLl bY cb N1l ce bX bZ aU ba aK aW a5 bP
attribute [local simp] iG db
end Q6
end
section
open Go.RowKit
theorem ent195 : ae Tryz.prog 195 := fun _ _ => by kernel_rfl
namespace Q6
attribute [local simp] aL a7 aI aH aB a8 aF aE aG PLl bY cb N1l ce bX bZ aU ba aK aW a5 bP
theorem rW7 {Q P : Prop} (k : Q) (h : Q → P := by intro k; (refine LY.run ?_); (repeat (first | refine bM rfl rfl rfl ?_ | refine bj rfl rfl rfl ?_ | ((refine vZ rfl rfl ?_ rfl rfl ?_); (· simp)) | ((refine o9 hGF rfl rfl rfl ?_ ?_ (ak _) rfl ?_); (· simp); (· simp)) | ((refine Fv hGF rfl rfl rfl ?_ ?_ (ak _) rfl ?_); (· simp); (· simp)))); (first | refine cm ?_ | refine LY.mk ?_); exact k) : P := h k
theorem pW7 {Q P : Prop} (k : Q) (h : Q → P := by intro k; (refine xp ?_); (refine rW7 ?_); exact k) : P := h k
attribute [local simp] iG db
theorem zv192 (w : World) : (zeroValue 192).run Tryz.prog w = .ok (.agg ((FM (FF fun _ => ze2) 6).map U64).toArray) w := by
 rw [np]; exact (Tryz.zeroValue192 w).trans (by rfl)
abbrev TV6 (f : Nat → W2) : Value := .agg ((FM (FF f) 6).map U64).toArray
theorem G4 (f : Nat → W2) : Pure Tryz.prog Gt 176 [TV6 f] (bv (tq f)) := by
 refine a9 Tryz.func176 fun w hw hGF => ?_
 refine xp ?_
 refine lb fun b1 => ?_
 refine la zv49 fun b2 => ?_
 refine aa ?_
 refine xp ?_
 refine cV (0) (12 * (0)) rfl rfl Tryz.underlying192 Tryz.sizeOf33 (by omega) (by omega) (by omega) rfl rfl ?_
 refine bl 1 ((fe (f 0).1 ++ fe (f 0).2).map U64) rfl rfl Tryz.isAgg33 Tryz.sizeOf33 (by simp) (dx _ (f 0) 6 (0) _ (by omega) rfl (rfl)) rfl rfl ?_
 refine cV (2) (12 * (2)) rfl rfl Tryz.underlying192 Tryz.sizeOf33 (by omega) (by omega) (by omega) rfl rfl ?_
 refine bl 1 ((fe (f 2).1 ++ fe (f 2).2).map U64) rfl rfl Tryz.isAgg33 Tryz.sizeOf33 (by simp) (dx _ (f 2) 6 (2) _ (by omega) rfl (rfl)) rfl rfl ?_
 refine cV (4) (12 * (4)) rfl rfl Tryz.underlying192 Tryz.sizeOf33 (by omega) (by omega) (by omega) rfl rfl ?_
 refine bl 1 ((fe (f 4).1 ++ fe (f 4).2).map U64) rfl rfl Tryz.isAgg33 Tryz.sizeOf33 (by simp) (dx _ (f 4) 6 (4) _ (by omega) rfl (rfl)) rfl rfl ?_
 refine dK gZ rfl rfl rfl (by simp) (by simp) (by simp) rfl rfl ?_
 refine cV (1) (12 * (1)) rfl rfl Tryz.underlying192 Tryz.sizeOf33 (by omega) (by omega) (by omega) rfl rfl ?_
 refine bl 1 ((fe (f 1).1 ++ fe (f 1).2).map U64) rfl rfl Tryz.isAgg33 Tryz.sizeOf33 (by simp) (dx _ (f 1) 6 (1) _ (by omega) rfl (rfl)) rfl rfl ?_
 refine cV (3) (12 * (3)) rfl rfl Tryz.underlying192 Tryz.sizeOf33 (by omega) (by omega) (by omega) rfl rfl ?_
 refine bl 1 ((fe (f 3).1 ++ fe (f 3).2).map U64) rfl rfl Tryz.isAgg33 Tryz.sizeOf33 (by simp) (dx _ (f 3) 6 (3) _ (by omega) rfl (rfl)) rfl rfl ?_
 refine cV (5) (12 * (5)) rfl rfl Tryz.underlying192 Tryz.sizeOf33 (by omega) (by omega) (by omega) rfl rfl ?_
 refine bl 1 ((fe (f 5).1 ++ fe (f 5).2).map U64) rfl rfl Tryz.isAgg33 Tryz.sizeOf33 (by simp) (dx _ (f 5) 6 (5) _ (by omega) rfl (rfl)) rfl rfl ?_
 refine dK gZ rfl rfl rfl (by simp) (by simp) (by simp) rfl rfl ?_
 refine dp rj rfl rfl (by simp) (by simp) rfl rfl ?_
 refine rW7 ?_
 refine rt ?_
 exact aw 2 rfl rfl rfl Tryz.isAgg49 Tryz.sizeOf49 (by simp) (fun w hw => ⟨rfl, ac hw⟩)
theorem k6 (x : W12) (w : World) (hw : Gt w) : Calls Tryz.prog 175 [bv x].toArray w (fun e w' => ∃ b1, e = .returned (.func (.func 195) #[] #[.pointer (some ⟨b1, 0, none⟩)]) ∧ Grow w w' ∧ w.heap.size ≤ b1 ∧ OwnB w' b1 ((((fe (x.1.1).1 ++ fe (x.1.1).2) ++ ((fe (x.1.2.1).1 ++ fe (x.1.2.1).2) ++ (fe (x.1.2.2).1 ++ fe (x.1.2.2).2))) ++ ((fe (x.2.1).1 ++ fe (x.2.1).2) ++ ((fe (x.2.2.1).1 ++ fe (x.2.2.1).2) ++ (fe (x.2.2.2).1 ++ fe (x.2.2.2).2)))).map U64) 49) := by
 have hGF : BOk Gt (pl w) := gt_low.plain hw
 refine aN (G := Gt) Tryz.func175 rfl rfl (Hp (pl w) []) (aZ (pl w) trivial ai) (ap hGF) ?_
 refine xp ?_
 refine lb fun b1 => ?_
 refine rW7 ?_
 refine xp ?_
 refine ip rfl rfl rfl rfl ?_
 refine rW7 ?_
 refine rt ?_
 exact aV rfl rfl (fun w hw => ⟨b1, rfl, ac hw, (hw.own 1 b1 _ _ rfl).2.elim id False.elim, (hw.own 1 b1 _ _ rfl).1⟩)
def sh (x : W12) : List (List Value) := (List.range 6).map fun (k : Nat) => [I (k : Int), EV2 (p12 x k)]
theorem jL (x : W12) : (sh x).length = 6 := by rw [sh, List.length_map, List.length_range]
theorem ou (x : W12) (k : Nat) (h : k < 6) : (sh x)[k]? = some [I (k : Int), EV2 (p12 x k)] := by
 rw [sh, List.getElem?_map, List.getElem?_range h]; rfl
theorem y5 (x : W12) (k : Nat) (v : List Value) (h : (sh x)[k]? = some v) : k < 6 ∧ v = [I (k : Int), EV2 (p12 x k)] := by
 have hk : k < 6 := by
  rcases Nat.lt_or_ge k 6 with hk | hk
  ·exact hk
  ·rw [List.getElem?_eq_none (by rw [jL]; exact hk)] at h; cases h
 exact ⟨hk, (Option.some.inj ((ou x k hk).symm.trans h)).symm⟩
def zf (bb : Nat) (x : W12) : Cls := fun w => w.rangeAt bb 0 ((((fe (x.1.1).1 ++ fe (x.1.1).2) ++ ((fe (x.1.2.1).1 ++ fe (x.1.2.1).2) ++ (fe (x.1.2.2).1 ++ fe (x.1.2.2).2))) ++ ((fe (x.2.1).1 ++ fe (x.2.1).2) ++ ((fe (x.2.2.1).1 ++ fe (x.2.2.1).2) ++ (fe (x.2.2.2).1 ++ fe (x.2.2.2).2)))).map U64)
theorem DP (bb : Nat) (x : W12) : fO Tryz.prog Gt 195 [.pointer (some ⟨bb, 0, none⟩)] (sh x) (zf bb x) := by
 intro l J Jx hJ hJx hRd hGx hY w hj
 have okJ : ∀ k, BOk Gt (Bi w (fun Y => J Y k)) := fun k => ⟨fun _ _ _ h => (hRd _ _ _ h.rid).1, hJ k⟩
 have okX : ∀ k, BOk Gt (Bi w (fun Y => Jx Y k)) := fun k => ⟨fun _ _ _ h => hGx _ _ _ h.rid, hJx k⟩
 have c1 : ∀ k L w', Hp (Bi w (fun Y => J Y k)) L w' → zf bb x w' := fun k L w' h => (hRd _ _ _ h.rid).2
 refine aN (G := Gt) Tryz.func195 rfl rfl (Hp (Bi w (fun Y => J Y 0)) []) (aZ (Bi w _) hj (hJ 0)) (ap (okJ 0)) ?_
 refine xp ?_
 refine dy rfl Tryz.isAgg49 Tryz.sizeOf49 (by simp) (fun w h => c1 _ _ w h) rfl rfl ?_
 refine lc ent196 (k12list _) ?_
 refine rW7 ?_
 refine am ?_
 refine iP (ι := { i : Nat // i ≤ 6 }) (fun y => [(0, .func (.yield l) #[] #[]), (1, .pointer (some ⟨bb, 0, none⟩)), (6, TV6 (p12 x)), (7, I (y.1 : Int))]) (fun y => Bi w (fun Y => J Y y.1)) (fun y => []) (fun y => 6 - y.1) ⟨0, Nat.zero_le _⟩ (fun _ => okJ _) rfl ⟨rfl, rfl, rfl, rfl, trivial⟩ trivial ?_
 rintro ⟨i, hi⟩
 dsimp only
 refine xp ?_
 refine ah rfl rfl (fun _ => rfl) (fun _ => aA _ _ _) rfl rfl ?_
 refine aa ?_
 refine aj ?_
 refine cd rfl (fun hc => ?_) (fun hc => ?_)
 ·have hi2 : i < 6 := by simp at hc; omega
  refine aD ?_
  refine aj ?_
  refine am ?_
  refine pW7 ?_
  refine qw (FF (p12 x)) (i) rfl rfl Tryz.underlying192 Tryz.sizeOf33 Tryz.isAgg33 (by omega) (by omega) (aK _) rfl rfl ?_
  refine bK 4 (okJ _) zv33 rfl rfl ?_
  intro b4
  refine rW7 ?_
  refine ao 4 (okJ _) rfl rfl rfl Tryz.sizeOf33 (by simp) (by simp) (ak _) rfl ?_
  refine aa ?_
  refine pW7 ?_
  refine ef (hY.b (k := i) (ou x i (by omega)) w) (okJ _) (okX _) rfl rfl rfl rfl rfl ?_ ?_
  ·skip
   refine bH rfl (fun _ => bq _) rfl rfl ?_
   refine aa ?_
   refine bg rfl ?_
   refine aD ?_
   refine av (E := EE []) ?_
   refine ah rfl rfl (fun _ => rfl) (fun _ => aO _ _ _ (by unfold inI; omega)) rfl rfl ?_
   refine rW7 ?_
   repeat (refine a6 ?_)
   refine bC ?_
   exact ⟨rfl, ⟨i + 1, by omega⟩, _, by show 6 - (i + 1) < 6 - i; omega, rfl, ⟨rfl, rfl, rfl, rfl, trivial⟩, trivial⟩
  ·skip
   refine bH rfl (fun _ => bq _) rfl rfl ?_
   refine aa ?_
   refine bF rfl ?_
   refine rt ?_
   repeat (first | refine eo ?_ | refine bT ?_ | refine eE rfl ?_ | refine aP ?_ | refine aQ ?_)
   exact dq rfl (fun w hw => ⟨⟨_, rfl⟩, .inr ⟨_, cw (hJx _) hw.rid⟩⟩)
 ·obtain rfl : i = 6 := by simp at hc; omega
  refine bd ?_
  repeat (first | refine eo ?_ | refine bT ?_ | refine eE rfl ?_ | refine aP ?_ | refine aQ ?_)
  refine dX rfl (fun w hw => ⟨⟨_, rfl⟩, .inl ?_⟩)
  have := cw (hJ _) hw.rid
  rw [jL]
  exact this
end Q6
end
section
open Go.RowKit
namespace Q6
attribute [local simp] aL a7 aI aH aB a8 aF aE aG PLl bY cb N1l ce bX bZ aU ba aK aW a5 bP
theorem eU {Q P : Prop} (k : Q) (h : Q → P := by intro k; (refine LY.run ?_); (repeat (first | refine bM rfl rfl rfl ?_ | refine bj rfl rfl rfl ?_ | ((refine vZ rfl rfl ?_ rfl rfl ?_); (· simp)) | ((refine nb rfl rfl ?_ rfl rfl ?_); (· simp)) | ((refine vw rfl rfl ?_ rfl rfl ?_); (· simp)) | ((refine Ex rfl rfl ?_ rfl rfl ?_); (· simp)) | ((refine yb hGF rfl rfl rfl ?_ ?_ (ak _) rfl ?_); (· simp); (· simp)) | ((refine pi hGF rfl rfl rfl ?_ ?_ (ak _) rfl ?_); (· simp); (· simp)) | refine ge rfl rfl rfl rfl ?_ | refine bR (f := 107) rfl rfl ent107 (ua) rfl rfl ?_ | refine bR (f := 171) rfl rfl ent171 (s5 _) rfl rfl ?_)); (first | refine cm ?_ | refine LY.mk ?_); exact k) : P := h k
attribute [local simp] iG db
theorem nJ (e : Option Addr) (cap : Nat) (w : World) (hw : Gt w) (hby : BytesAt w e SXB) :
  Calls Tryz.prog 46 [.slice e SXB.length cap].toArray w (fun r w' => r = .returned (.tuple #[EV SR, .bool (FO SXB)]) ∧ Grow w w') := by
 have h := eK e cap SXB w hw hby
 rw [AD] at h
 exact h
theorem Fu {m : Nat} (h : m % 2 = 1) (y : W2) (k : Nat) : frq y m k = ml2 (cj2 y) (pw2 (GV m) k) := by rw [frq, cjn, if_pos h]
theorem Fs {m : Nat} (h : ¬ m % 2 = 1) (y : W2) (k : Nat) : frq y m k = ml2 y (pw2 (GV m) k) := by rw [frq, cjn, if_neg h]
theorem GV_s (i : Nat) : GV (i + 1) = ml2 (cj2 (GV i)) ((SR, -SR) : W2) := by rw [Ee]; rfl
theorem uo (n : Nat) (hn : n ≤ 1000) : Pure Tryz.prog Gt 174 [I (n : Int)] (EV2 (GV n)) := by
 refine a9 Tryz.func174 fun w hw hGF => ?_
 refine ab (E := EE [1000022]) ?_
 refine la zv33 fun b2 => ?_
 refine aa ?_
 refine ab (E := EE [1000022]) ?_
 refine py 8 SXB hGF rfl rfl rfl (by decide) (by decide) Tryz.underlying22 Tryz.sizeOf5 Tryz.zeroValue5 rfl rfl ?_
 intro b8
 refine pJ 8 rfl hGF rfl rfl Tryz.underlying22 Tryz.underlying5 rfl rfl ?_
 refine bz rfl rfl ent46 (fun w' hC hG => nJ _ _ w' hG (BytesAt.range (hC.own 8 b8 _ _ rfl).1.range)) rfl rfl ?_
 refine eU ?_
 refine la zv27 fun b3 => ?_
 refine eU ?_
 refine cf (E := EE [1000022, 2999999]) [0, 1, 2, 3] [⟨4, 5, 33, (fe 0 ++ fe 0).map U64⟩] [5] bi rfl (by kernel_rfl) (by kernel_rfl) (by kernel_rfl) (by kernel_rfl) (by kernel_rfl) (by kernel_rfl) (by decide) (by intro x hx; simp only [List.mem_cons, List.not_mem_nil, or_false] at hx; subst hx; exact bB rfl zv33 rfl) ?_
 refine eU ?_
 refine lc ent100 (lL _) ?_
 refine dp tP rfl rfl (by simp) (by simp) rfl rfl ?_
 refine aa ?_
 refine ⟨_, _, rfl, hGF, by intro x hx; simp only [List.mem_cons, List.not_mem_nil, or_false] at hx; subst hx; rfl, by intro x hx; simp only [List.mem_cons, List.not_mem_nil, or_false] at hx; subst hx; rfl, fun adr => ?_⟩
 refine eU ?_
 refine ab (E := EE [1000022]) ?_
 refine eU ?_
 refine la zv33 fun b6 => ?_
 refine eU ?_
 refine aj ?_
 refine ab (E := EE [1000022]) ?_
 refine eU ?_
 refine am ?_
 refine cn (ι := { i : Nat // i ≤ n }) (fun y => [(0, I (n : Int)), (2, .pointer (some ⟨b2, 0, none⟩)), (3, .pointer (some ⟨b3, 0, none⟩)), (5, .pointer (some ⟨(adr 5), 0, none⟩)), (6, .pointer (some ⟨b6, 0, none⟩)), (18, I (n : Int)), (19, I (y.1 : Int))]) (fun y => [(2, b2, (fe 0 ++ fe 0).map U64, 33), (3, b3, (fe SR).map U64, 27), (5, adr 5, (fe SR ++ fe (-SR)).map U64, 33), (6, b6, (fe (GV y.1).1 ++ fe (GV y.1).2).map U64, 33)]) (fun y => n - y.1) ⟨0, Nat.zero_le _⟩ hGF ⟨rfl, rfl, rfl, rfl, rfl, rfl, rfl, trivial⟩ ⟨rfl, rfl, rfl, rfl, trivial⟩ ?_
 rintro ⟨i, hi⟩
 dsimp only
 refine ab (E := EE [1000022]) ?_
 refine ah rfl rfl (fun _ => rfl) (fun _ => aA _ _ _) rfl rfl ?_
 refine aa ?_
 refine aj ?_
 refine cd rfl (fun hc => ?_) (fun hc => ?_)
 ·simp only [decide_eq_true_eq] at hc
  refine aD ?_
  refine aj ?_
  refine am ?_
  refine c9 (E := EE [1000022]) bi (by kernel_rfl) (by kernel_rfl) (by kernel_rfl) ?_
  refine eU ?_
  refine az rfl rfl ent130 (kR (cj2 (GV i)) ((SR, -SR) : W2)) rfl rfl ?_
  refine eU ?_
  refine av (E := EE [1000022]) ?_
  refine ah rfl rfl (fun _ => rfl) (fun _ => aO _ _ _ (by unfold inI; omega)) rfl rfl ?_
  refine eU ?_
  repeat (refine a6 ?_)
  refine bC ?_
  exact ⟨rfl, ⟨i + 1, by omega⟩, _, by show n - (i + 1) < n - i; omega, rfl, ⟨rfl, rfl, rfl, rfl, rfl, rfl, rfl, trivial⟩, ⟨rfl, rfl, rfl, by rw [GV_s i]; rfl, trivial⟩⟩
 ·obtain rfl : n = i := by simp at hc; omega
  refine bd ?_
  refine ab (E := EE [1000022]) ?_
  refine eU ?_
  refine rt ?_
  exact aw 2 rfl rfl rfl Tryz.isAgg33 Tryz.sizeOf33 (by simp) (fun w hw => ⟨rfl, ac hw⟩)
theorem qp (x : W12) (n : Int) : Pure Tryz.prog Gt 132 [bv x, I n] (bv (fE x (n % 12).toNat)) := by
 intro w hw
 have hGF : BOk Gt (pl w) := gt_low.plain hw
 obtain ⟨m, hm⟩ : ∃ m : Nat, (n % 12).toNat = m := ⟨_, rfl⟩
 have hm6 : m < 12 := by omega
 rw [hm, qt]
 refine bE (G := Gt) Tryz.func132 rfl rfl (Hp (pl w) []) (aZ (pl w) trivial ai) (ap hGF) ?_
 refine ab (E := EE [175]) ?_
 refine lb fun b2 => ?_
 refine jC 3 hGF rfl rfl rfl ?_
 intro b3
 refine la zv49 fun b4 => ?_
 refine aa ?_
 refine ab (E := EE [175]) ?_
 refine bS 3 rfl rfl rfl Tryz.isAgg3 rfl rfl ?_
 refine ah (v := I (n.tmod 12)) rfl rfl (fun _ => rfl) (fun _ => dV _ _ _ (by decide)) rfl rfl ?_
 refine ah (v := I (n.tmod 12 + 12)) rfl rfl (fun _ => rfl) (fun _ => aO _ _ _ (vl n)) rfl rfl ?_
 refine ah (v := I (m : Int)) rfl rfl (fun _ => rfl) (fun _ => (dV _ _ _ (by decide)).trans (by rw [FK, hm])) rfl rfl ?_
 refine cx 3 hGF rfl rfl rfl Tryz.sizeOf3 rfl (by show 0 < 1; decide) rfl ?_
 refine aa ?_
 refine ab (E := EE [175]) ?_
 refine bS 3 rfl rfl rfl Tryz.isAgg3 rfl rfl ?_
 refine az rfl rfl ent174 (uo m (by omega)) rfl rfl ?_
 refine eU ?_
 refine la zv33 fun b5 => ?_
 refine la zv33 fun b6 => ?_
 refine eU ?_
 refine ab (E := EE [175]) ?_
 refine la zv192 fun b7 => ?_
 refine aa ?_
 refine aj ?_
 refine ab (E := EE [175]) ?_
 refine eU ?_
 refine cv rfl rfl ent175 rfl rfl (fun w' hw' => (k6 x w' (hGF.g _ _ _ hw')).mono fun e' w'' h => ?_)
 obtain ⟨c1, rfl, hg, h1, ho⟩ := h
 refine ⟨_, _, rfl, ap hGF, hw'.news ai hg [(33, c1, (((fe (x.1.1).1 ++ fe (x.1.1).2) ++ ((fe (x.1.2.1).1 ++ fe (x.1.2.1).2) ++ (fe (x.1.2.2).1 ++ fe (x.1.2.2).2))) ++ ((fe (x.2.1).1 ++ fe (x.2.1).2) ++ ((fe (x.2.2.1).1 ++ fe (x.2.2.1).2) ++ (fe (x.2.2.2).1 ++ fe (x.2.2.2).2)))).map U64, 49)] ?_ dd, ?_⟩
 ·intro n' b' c' t' hl
  rcases bf hl with ⟨_, e⟩ | ⟨_, hl⟩
  ·cases e; exact ⟨h1, ho⟩
  ·cases hl
 clear hw' hg h1 ho
 refine aa ?_
 refine am ?_
 refine da (fun _ => pl w) (fun _ _ => pl w) (fun _ => hGF) (fun _ _ => hGF) (fun _ => rfl) (fun _ _ => rfl) rfl rfl ent195 (DP c1 x) (fun v hv => by obtain ⟨k, hk, rfl⟩ := List.mem_map.1 hv; rfl) rfl (fun k => [(2, b2, (((fe (x.1.1).1 ++ fe (x.1.1).2) ++ ((fe (x.1.2.1).1 ++ fe (x.1.2.1).2) ++ (fe (x.1.2.2).1 ++ fe (x.1.2.2).2))) ++ ((fe (x.2.1).1 ++ fe (x.2.1).2) ++ ((fe (x.2.2.1).1 ++ fe (x.2.2.1).2) ++ (fe (x.2.2.2).1 ++ fe (x.2.2.2).2)))).map U64, 49), (3, b3, [I (m : Int)], 3), (4, b4, (((fe 0 ++ fe 0) ++ ((fe 0 ++ fe 0) ++ (fe 0 ++ fe 0))) ++ ((fe 0 ++ fe 0) ++ ((fe 0 ++ fe 0) ++ (fe 0 ++ fe 0)))).map U64, 49), (5, b5, (fe (GV m).1 ++ fe (GV m).2).map U64, 33), (6, b6, (fe (pw2 (GV m) k).1 ++ fe (pw2 (GV m) k).2).map U64, 33), (7, b7, (FM (FF (fun j => if j < k then frq (p12 x j) m j else ze2)) 6).map U64, 192), (33, c1, (((fe (x.1.1).1 ++ fe (x.1.1).2) ++ ((fe (x.1.2.1).1 ++ fe (x.1.2.1).2) ++ (fe (x.1.2.2).1 ++ fe (x.1.2.2).2))) ++ ((fe (x.2.1).1 ++ fe (x.2.1).2) ++ ((fe (x.2.2.1).1 ++ fe (x.2.2.1).2) ++ (fe (x.2.2.2).1 ++ fe (x.2.2.2).2)))).map U64, 49)]) (fun _ _ _ => False) ⟨rfl, rfl, rfl, rfl, rfl, congrArg (fun l => some (b7, l, _)) (congrArg (List.map U64) (nd fun j _ => (if_neg (Nat.not_lt_zero j)).symm)), rfl, trivial⟩ (fun k _ w' h => cr (n := 33) rfl w' h) ?_ ?_ (fun _ _ _ _ _ h => h.elim)
 ·intro k v hx R hR
  obtain ⟨hk, rfl⟩ := y5 x k v hx
  refine ab (E := EE [175]) ?_
  refine eU ?_
  refine av (E := EE [175]) ?_
  refine bK 9 (hR (pl w) rfl hGF).1 zv33 rfl rfl ?_
  intro b9
  refine ao 9 (hR (pl w) rfl hGF).1 rfl rfl rfl Tryz.sizeOf33 (by simp) (by simp) (ak _) rfl ?_
  refine aa ?_
  refine ⟨rfl, _, rfl, ?_⟩
  refine am ?_
  refine aj ?_
  refine ab (E := EE [175]) ?_
  refine bS 3 rfl rfl rfl Tryz.isAgg3 rfl rfl ?_
  refine ah (v := I ((m % 2 : Nat) : Int)) rfl rfl (fun _ => rfl) (fun _ => dV _ _ _ (by decide)) rfl rfl ?_
  refine ah rfl rfl (fun _ => rfl) (fun _ => r5 _ _ _) rfl rfl ?_
  refine aa ?_
  refine cd rfl (fun hc => ?_) (fun hc => ?_)
  ·have hp : m % 2 = 1 := by simp at hc; omega
   refine av (E := EE [175]) ?_
   refine eU ?_
   refine ao 9 (hR (pl w) rfl hGF).2.1 rfl rfl rfl Tryz.sizeOf33 (by simp) (by simp) (ak _) rfl ?_
   refine aa ?_
   refine ab (E := EE [175]) ?_
   refine eU ?_
   refine lc ent130 (kR _ _) ?_
   refine cV (k) (12 * (k)) rfl rfl Tryz.underlying192 Tryz.sizeOf33 (by omega) (by omega) (by omega) rfl rfl ?_
   refine gw 7 ((FM (FF (fun j => if j < k + 1 then frq (p12 x j) m j else ze2)) 6).map U64) (hR (pl w) rfl hGF).2.1 rfl rfl rfl Tryz.sizeOf33 (by simp) (ak _) (by simp; omega) (mY _ _ (ml2 (cj2 (p12 x k)) (pw2 (GV m) k)) 6 (k) _ (by omega) rfl (fun j _ => by rw [← Fu hp]; exact oY (fun j => frq (p12 x j) m j) (fun _ => ze2) k j)) rfl ?_
   refine aa ?_
   refine av (E := EE [175]) ?_
   refine eU ?_
   refine lc ent130 (kR _ _) ?_
   refine ao 6 (hR (pl w) rfl hGF).2.1 rfl rfl rfl Tryz.sizeOf33 (by simp) (by simp) (ak _) rfl ?_
   refine aa ?_
   repeat (refine a6 ?_)
   exact ⟨_, rfl, ⟨rfl, rfl, rfl, rfl, rfl, rfl, rfl, trivial⟩⟩
  ·have hp : ¬ m % 2 = 1 := by simp at hc; omega
   refine aD ?_
   refine ab (E := EE [175]) ?_
   refine eU ?_
   refine lc ent130 (kR _ _) ?_
   refine cV (k) (12 * (k)) rfl rfl Tryz.underlying192 Tryz.sizeOf33 (by omega) (by omega) (by omega) rfl rfl ?_
   refine gw 7 ((FM (FF (fun j => if j < k + 1 then frq (p12 x j) m j else ze2)) 6).map U64) (hR (pl w) rfl hGF).2.1 rfl rfl rfl Tryz.sizeOf33 (by simp) (ak _) (by simp; omega) (mY _ _ (ml2 (p12 x k) (pw2 (GV m) k)) 6 (k) _ (by omega) rfl (fun j _ => by rw [← Fs hp]; exact oY (fun j => frq (p12 x j) m j) (fun _ => ze2) k j)) rfl ?_
   refine aa ?_
   refine av (E := EE [175]) ?_
   refine eU ?_
   refine lc ent130 (kR _ _) ?_
   refine ao 6 (hR (pl w) rfl hGF).2.1 rfl rfl rfl Tryz.sizeOf33 (by simp) (by simp) (ak _) rfl ?_
   refine aa ?_
   repeat (refine a6 ?_)
   exact ⟨_, rfl, ⟨rfl, rfl, rfl, rfl, rfl, rfl, rfl, trivial⟩⟩
 ·intro D hD
  rw [jL]
  refine ab (E := EE [175]) ?_
  refine eU ?_
  refine lc ent176 (G4 _) ?_
  refine ao 4 hD rfl rfl rfl Tryz.sizeOf49 (by simp) (by simp) (ak _) rfl ?_
  refine aa ?_
  refine rt ?_
  exact cq (.inl rfl) ai (aw 4 rfl rfl rfl Tryz.isAgg49 Tryz.sizeOf49 (by simp) (fun w hw => ⟨e12 rfl rfl, ac hw⟩))
end Q6
end
end Go.Proofs.YtpnpiblphnpfiaaGreatDoor
