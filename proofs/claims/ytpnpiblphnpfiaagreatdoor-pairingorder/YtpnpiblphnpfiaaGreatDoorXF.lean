/-
 Elements of fp12 as values; what the laws of layer 7 share.
 The walks of package fp12.
 The walks of package fp12: powers.
 The walks of package fp12: its parts.
 The walks of package fp12: powers of p.
-/
import Derived.Test.YtpnpiblphnpfiaaGreatDoorXE
import Derived.Test.YtpnpiblphnpfiaaGreatDoorX3
import Derived.Test.YtpnpiblphnpfiaaGreatDoorXJ
import Derived.Test.YtpnpiblphnpfiaaGreatDoorX5
set_option maxRecDepth 100000
set_option maxHeartbeats 1000000
namespace Go.Proofs.YtpnpiblphnpfiaaGreatDoor
section
open Go.RowKit
theorem ent132 : ae Tryz.prog 132 := fun _ _ => by kernel_rfl
theorem ent174 : ae Tryz.prog 174 := fun _ _ => by kernel_rfl
theorem ent35 : ae Tryz.prog 35 := fun _ _ => by kernel_rfl
theorem ent196 : ae Tryz.prog 196 := fun _ _ => by kernel_rfl
theorem ent26 : ae Tryz.prog 26 := fun _ _ => by kernel_rfl
theorem ent176 : ae Tryz.prog 176 := fun _ _ => by kernel_rfl
theorem ent30 : ae Tryz.prog 30 := fun _ _ => by kernel_rfl
theorem ent81 : ae Tryz.prog 81 := fun _ _ => by kernel_rfl
theorem ent22 : ae Tryz.prog 22 := fun _ _ => by kernel_rfl
theorem ent134 : ae Tryz.prog 134 := fun _ _ => by kernel_rfl
theorem ent82 : ae Tryz.prog 82 := fun _ _ => by kernel_rfl
theorem ent33 : ae Tryz.prog 33 := fun _ _ => by kernel_rfl
theorem ent41 : ae Tryz.prog 41 := fun _ _ => by kernel_rfl
theorem ent175 : ae Tryz.prog 175 := fun _ _ => by kernel_rfl
namespace Q6
attribute [local simp] aY bj aF aA aL aW aM aK aO PLl cq cn N1l cm cp ck bd bk aX bg ba cg
attribute [local simp] i7 fu
abbrev bt (x : W12) : Value := .agg ((((fe (x.1.1).1 ++ fe (x.1.1).2) ++ ((fe (x.1.2.1).1 ++ fe (x.1.2.1).2) ++ (fe (x.1.2.2).1 ++ fe (x.1.2.2).2))) ++ ((fe (x.2.1).1 ++ fe (x.2.1).2) ++ ((fe (x.2.2.1).1 ++ fe (x.2.2.1).2) ++ (fe (x.2.2.2).1 ++ fe (x.2.2.2).2)))).map U64).toArray
theorem zv49 (w : World) : (zeroValue 49).run Tryz.prog w = .ok (.agg ((((fe 0 ++ fe 0) ++ ((fe 0 ++ fe 0) ++ (fe 0 ++ fe 0))) ++ ((fe 0 ++ fe 0) ++ ((fe 0 ++ fe 0) ++ (fe 0 ++ fe 0)))).map U64).toArray) w := by rw [i4]; exact (Tryz.zeroValue49 w).trans (by rfl)
theorem rW : Two Tryz.prog 49 ⟨ "C0", 47, 0, false, "", "", 0⟩ ⟨ "C1", 47, 36, false, "", "", 288⟩ 36 36 ((fe 0 ++ fe 0) ++ ((fe 0 ++ fe 0) ++ (fe 0 ++ fe 0))) ((fe 0 ++ fe 0) ++ ((fe 0 ++ fe 0) ++ (fe 0 ++ fe 0))) := ⟨Tryz.underlying49, rfl, rfl, Tryz.sizeOf47, Tryz.sizeOf47, zv49, by simp, by simp⟩
theorem e12 {a b a' b' : W6} (h1 : a = a') (h2 : b = b') : Ending.returned (bt (a, b)) = .returned (bt (a', b')) := by rw [h1, h2]
theorem sD {x y : W12} (h : x.1 = y.1) : decide (x.2 = y.2) = decide (x = y) := decide_eq_decide.2 ⟨fun e => Prod.ext h e, fun e => by rw [e]⟩
theorem sR {x y : W12} (h : ¬ x.1 = y.1) : false = decide (x = y) := (decide_eq_false fun e => h (by rw [e])).symm
def p12 (x : W12) : Nat → W2
 | 0 => x.1.1
 | 1 => x.2.1
 | 2 => x.1.2.1
 | 3 => x.2.2.1
 | 4 => x.1.2.2
 | _ => x.2.2.2
def q12 : Sh W12 := q6.two q6 6
theorem V12 (x : W12) : bt x = dn rid (.inl [x.1.1.1, x.1.1.2, x.1.2.1.1, x.1.2.1.2, x.1.2.2.1, x.1.2.2.2, x.2.1.1, x.2.1.2, x.2.2.1.1, x.2.2.1.2, x.2.2.2.1, x.2.2.2.2]) := by
 show Value.agg _ = Value.agg _
 rw [clv, show cel [x.1.1.1, x.1.1.2, x.1.2.1.1, x.1.2.1.2, x.1.2.2.1, x.1.2.2.2, x.2.1.1, x.2.1.2, x.2.2.1.1, x.2.2.1.2, x.2.2.2.1, x.2.2.2.2] = fe x.1.1.1 ++ (fe x.1.1.2 ++ (fe x.1.2.1.1 ++ (fe x.1.2.1.2 ++ (fe x.1.2.2.1 ++ (fe x.1.2.2.2 ++ (fe x.2.1.1 ++ (fe x.2.1.2 ++ (fe x.2.2.1.1 ++ (fe x.2.2.1.2 ++ (fe x.2.2.2.1 ++ fe x.2.2.2.2)))))))))) from rfl]
 simp only [List.append_assoc]
end Q6
end
section
open Go.RowKit
namespace Q6
attribute [local simp] aY bj aF aA aL aW aM aK aO PLl cq cn N1l cm cp ck bd bk aX bg ba cg
theorem rW2 {Q P : Prop} (k : Q) (h : Q → P := by intro k; (refine LY.run ?_); (repeat (first | refine bC rfl rfl rfl ?_ | refine a7 rfl rfl rfl ?_ | ((refine Aq rfl rfl ?_ rfl rfl rfl rfl ?_); (· simp)) | ((refine zd rfl rfl ?_ ?_ rfl rfl rfl rfl ?_); (· simp); (· simp)) | ((refine Is rfl rfl ?_ rfl rfl ?_); (· simp)) | ((refine Hy hGF rfl rfl rfl ?_ ?_ (ak _) rfl ?_); (· simp); (· simp)) | ((refine nC hGF rfl rfl rfl ?_ ?_ (ak _) rfl ?_); (· simp); (· simp)) | refine bz (f := 90) rfl rfl ent90 (x9 _ _) rfl rfl ?_ | refine bz (f := 91) rfl rfl ent91 (xV _ _) rfl rfl ?_ | refine bz (f := 93) rfl rfl ent93 (xA _ _) rfl rfl ?_ | refine bz (f := 92) rfl rfl ent92 (k6v _) rfl rfl ?_ | refine bz (f := 177) rfl rfl ent177 (k6 _) rfl rfl ?_ | refine jg rfl rfl rfl rfl rfl ?_)); (first | refine bO ?_ | refine LY.mk ?_); exact k) : P := h k
theorem pW2 {Q P : Prop} (k : Q) (h : Q → P := by intro k; (refine xp ?_); (refine rW2 ?_); exact k) : P := h k
attribute [local simp] i7 fu
theorem gu  : Pure Tryz.prog Gt 22 [] (bt K12.one) := (a8 rfl (V12 _) (pE TO51 Tryz.func22 [] (.inl (.inl [K12.one.1.1.1, K12.one.1.1.2, K12.one.1.2.1.1, K12.one.1.2.1.2, K12.one.1.2.2.1, K12.one.1.2.2.2, K12.one.2.1.1, K12.one.2.1.2, K12.one.2.2.1.1, K12.one.2.2.1.2, K12.one.2.2.2.1, K12.one.2.2.2.2])) (let t0 := K6.one; (.inl (.inl [t0.1.1, t0.1.2, t0.2.1.1, t0.2.1.2, t0.2.2.1, t0.2.2.2, 0, 0, 0, 0, 0, 0]), [])) [] (by kernel_rfl) aG rfl))
theorem wI {f : Nat} {g : W12} (en : ae Tryz.prog f) (h : Pure Tryz.prog Gt f [] (bt g)) : Snd Tryz.prog Gt f (c0 q12.rd g) := mm q12.rd en (a8 rfl (V12 _).symm h)
def TO52 : Tb Tryz.prog Gt := TO51.add (wI (g := K12.one) ent22 gu)
theorem dY (x y : W12) : Pure Tryz.prog Gt 33 [bt x, bt y] (.bool (decide (x = y))) := by
 intro w hw
 have hGF : BOk Gt (pl w) := gt_low.plain hw
 by_cases h : x.1 = y.1
 ·skip
  refine aN (G := Gt) Tryz.func33 rfl rfl (Hp (pl w) []) (a5 (pl w) trivial aq) (ay hGF) ?_
  refine xp ?_
  refine lb fun b2 => ?_
  refine lb fun b3 => ?_
  refine rW2 ?_
  refine pW2 ?_
  refine dz true rfl rfl ent84 (jY _ _) (decide_eq_true h) rfl rfl ?_
  refine rW2 ?_
  refine lc ent84 (jY _ _) ?_
  refine rW2 ?_
  refine rt ?_
  exact bh rfl rfl (fun w hw => ⟨rb (sD h), ah hw⟩)
 ·skip
  refine aN (G := Gt) Tryz.func33 rfl rfl (Hp (pl w) []) (a5 (pl w) trivial aq) (ay hGF) ?_
  refine xp ?_
  refine lb fun b2 => ?_
  refine lb fun b3 => ?_
  refine rW2 ?_
  refine pW2 ?_
  refine dz false rfl rfl ent84 (jY _ _) (decide_eq_false h) rfl rfl ?_
  refine rW2 ?_
  refine cF rfl rfl rfl ?_
  refine cF rfl rfl rfl ?_
  refine cF rfl rfl rfl ?_
  refine cF rfl rfl rfl ?_
  refine cF rfl rfl rfl ?_
  refine rW2 ?_
  refine rt ?_
  exact bh rfl rfl (fun w hw => ⟨rb (sR h), ah hw⟩)
theorem fA {f : Nat} {g : W12 → W12 → Bool} (en : ae Tryz.prog f) (h : ∀ a b, Pure Tryz.prog Gt f [bt a, bt b] (.bool (g a b))) : Snd Tryz.prog Gt f (c2 q12.ag q12.ag rdB g) := dv q12.ag q12.ag rdB en (fun a b => a8 (l2 (V12 _).symm (V12 _).symm) rfl (h a b))
def TO53 : Tb Tryz.prog Gt := TO52.add (fA (g := fun x y => decide (x = y)) ent33 dY)
theorem i1 (x : W12) : Pure Tryz.prog Gt 26 [bt x] (.bool (decide (x = K12.zero))) := by
 intro w hw
 have hGF : BOk Gt (pl w) := gt_low.plain hw
 by_cases h : x.1 = K6.zero
 ·skip
  refine aN (G := Gt) Tryz.func26 rfl rfl (Hp (pl w) []) (a5 (pl w) trivial aq) (ay hGF) ?_
  refine xp ?_
  refine lb fun b1 => ?_
  refine rW2 ?_
  refine pW2 ?_
  refine dz true rfl rfl ent76 (iA _) (decide_eq_true h) rfl rfl ?_
  refine rW2 ?_
  refine lc ent76 (iA _) ?_
  refine rW2 ?_
  refine rt ?_
  exact bh rfl rfl (fun w hw => ⟨rb (sD (y := K12.zero) h), ah hw⟩)
 ·skip
  refine aN (G := Gt) Tryz.func26 rfl rfl (Hp (pl w) []) (a5 (pl w) trivial aq) (ay hGF) ?_
  refine xp ?_
  refine lb fun b1 => ?_
  refine rW2 ?_
  refine pW2 ?_
  refine dz false rfl rfl ent76 (iA _) (decide_eq_false h) rfl rfl ?_
  refine rW2 ?_
  refine cF rfl rfl rfl ?_
  refine cF rfl rfl rfl ?_
  refine cF rfl rfl rfl ?_
  refine rW2 ?_
  refine rt ?_
  exact bh rfl rfl (fun w hw => ⟨rb (sR (y := K12.zero) h), ah hw⟩)
theorem kP {f : Nat} {g : W12 → Bool} (en : ae Tryz.prog f) (h : ∀ a, Pure Tryz.prog Gt f [bt a] (.bool (g a))) : Snd Tryz.prog Gt f (c1 q12.ag rdB g) := dB q12.ag rdB en (fun a => a8 (l1 (V12 _).symm) rfl (h a))
def TO54 : Tb Tryz.prog Gt := TO53.add (kP (g := fun x => decide (x = K12.zero)) ent26 i1)
theorem iP (x : W12) : Pure Tryz.prog Gt 41 [bt x] (bt (bw x)) := (a8 (l1 (V12 _)) (V12 _) (pE TO54 Tryz.func41 [.inl [x.1.1.1, x.1.1.2, x.1.2.1.1, x.1.2.1.2, x.1.2.2.1, x.1.2.2.2, x.2.1.1, x.2.1.2, x.2.2.1.1, x.2.2.1.2, x.2.2.2.1, x.2.2.2.2]] (.inl (.inl [(bw x).1.1.1, (bw x).1.1.2, (bw x).1.2.1.1, (bw x).1.2.1.2, (bw x).1.2.2.1, (bw x).1.2.2.2, (bw x).2.1.1, (bw x).2.1.2, (bw x).2.2.1.1, (bw x).2.2.1.2, (bw x).2.2.2.1, (bw x).2.2.2.2])) (let t0 := K6.neg ((x.2.1.1, x.2.1.2), (x.2.2.1.1, x.2.2.1.2), (x.2.2.2.1, x.2.2.2.2)); (.inl (.inl [x.1.1.1, x.1.1.2, x.1.2.1.1, x.1.2.1.2, x.1.2.2.1, x.1.2.2.2, t0.1.1, t0.1.2, t0.2.1.1, t0.2.1.2, t0.2.2.1, t0.2.2.2]), [])) [] (by kernel_rfl) aG rfl))
theorem cv {f : Nat} {g : W12 → W12} (en : ae Tryz.prog f) (h : ∀ a, Pure Tryz.prog Gt f [bt a] (bt (g a))) : Snd Tryz.prog Gt f (c1 q12.ag q12.rd g) := dB q12.ag q12.rd en (fun a => a8 (l1 (V12 _).symm) (V12 _).symm (h a))
def TO55 : Tb Tryz.prog Gt := TO54.add (cv (g := bw) ent41 iP)
theorem lM (x y : W12) : Pure Tryz.prog Gt 35 [bt x, bt y] (bt (K12.mul x y)) := by
 refine aQ Tryz.func35 fun w hw hGF => ?_
 refine xp ?_
 refine lb fun b2 => ?_
 refine lb fun b3 => ?_
 refine la zv49 fun b4 => ?_
 refine aa ?_
 refine bv (E := EE [2999999]) [0, 1, 2, 3, 4, 5, 6, 7, 8, 9] [⟨10, 5, 47, ((fe 0 ++ fe 0) ++ ((fe 0 ++ fe 0) ++ (fe 0 ++ fe 0))).map U64⟩, ⟨11, 6, 47, ((fe 0 ++ fe 0) ++ ((fe 0 ++ fe 0) ++ (fe 0 ++ fe 0))).map U64⟩] [12, 13] a9 rfl (by kernel_rfl) (by kernel_rfl) (by kernel_rfl) (by kernel_rfl) (by kernel_rfl) (by kernel_rfl) (by decide) (by intro x hx; simp only [List.mem_cons, List.not_mem_nil, or_false] at hx; rcases hx with rfl | rfl <;> exact a6 rfl zv47 rfl) ?_
 refine rW2 ?_
 refine ⟨_, _, rfl, hGF, by intro x hx; simp only [List.mem_cons, List.not_mem_nil, or_false] at hx; rcases hx with rfl | rfl <;> rfl, by intro x hx; simp only [List.mem_cons, List.not_mem_nil, or_false] at hx; rcases hx with rfl | rfl <;> rfl, fun adr => ?_⟩
 refine rW2 ?_
 refine bv (E := EE [2999999]) [0, 1, 2, 3, 4, 5, 6, 7, 8, 9, 10] [⟨11, 7, 47, ((fe 0 ++ fe 0) ++ ((fe 0 ++ fe 0) ++ (fe 0 ++ fe 0))).map U64⟩] [12] a9 rfl (by kernel_rfl) (by kernel_rfl) (by kernel_rfl) (by kernel_rfl) (by kernel_rfl) (by kernel_rfl) (by decide) (by intro x hx; simp only [List.mem_cons, List.not_mem_nil, or_false] at hx; subst hx; exact a6 rfl zv47 rfl) ?_
 refine rW2 ?_
 refine ⟨_, _, rfl, hGF, by intro x hx; simp only [List.mem_cons, List.not_mem_nil, or_false] at hx; subst hx; rfl, by intro x hx; simp only [List.mem_cons, List.not_mem_nil, or_false] at hx; subst hx; rfl, fun adr => ?_⟩
 refine rW2 ?_
 refine bx (E := EE []) a9 (by kernel_rfl) (by kernel_rfl) (by kernel_rfl) ?_
 refine rW2 ?_
 refine eO rW rfl rfl (by simp) (by simp) rfl rfl ?_
 refine rW2 ?_
 refine rt ?_
 exact av 4 rfl rfl rfl Tryz.isAgg49 Tryz.sizeOf49 (by simp) (fun w hw => ⟨e12 (zq K6 [x.1, x.2, y.1, y.2, VV] (ta (tm j0 j2) (tvv 4 (tm j1 j3) rfl)) (ta (tm j0 j2) (tm j4 (tm j1 j3)))) (zq K6 [x.1, x.2, y.1, y.2, VV] (vK (vK (tm (ta j0 j1) (ta j2 j3)) (tm j0 j2)) (tm j1 j3)) (ta (tm j0 j3) (tm j1 j2))), ah hw⟩)
theorem eG {f : Nat} {g : W12 → W12 → W12} (en : ae Tryz.prog f) (h : ∀ a b, Pure Tryz.prog Gt f [bt a, bt b] (bt (g a b))) : Snd Tryz.prog Gt f (c2 q12.ag q12.ag q12.rd g) := dv q12.ag q12.ag q12.rd en (fun a b => a8 (l2 (V12 _).symm (V12 _).symm) (V12 _).symm (h a b))
def TO56 : Tb Tryz.prog Gt := TO55.add (eG (g := K12.mul) ent35 lM)
theorem fB (x : W12) : Pure Tryz.prog Gt 82 [bt x] (bt (K12.mul x x)) := by
 refine aQ Tryz.func82 fun w hw hGF => ?_
 refine xp ?_
 refine lb fun b1 => ?_
 refine la zv49 fun b2 => ?_
 refine aa ?_
 refine pW2 ?_
 refine la zv47 fun b3 => ?_
 refine rW2 ?_
 refine bv (E := EE [2999999]) [0, 1, 2, 3, 4, 5, 6, 7, 8, 9, 10, 11] [⟨12, 4, 47, ((fe 0 ++ fe 0) ++ ((fe 0 ++ fe 0) ++ (fe 0 ++ fe 0))).map U64⟩] [13] a9 rfl (by kernel_rfl) (by kernel_rfl) (by kernel_rfl) (by kernel_rfl) (by kernel_rfl) (by kernel_rfl) (by decide) (by intro x hx; simp only [List.mem_cons, List.not_mem_nil, or_false] at hx; subst hx; exact a6 rfl zv47 rfl) ?_
 refine rW2 ?_
 refine ⟨_, _, rfl, hGF, by intro x hx; simp only [List.mem_cons, List.not_mem_nil, or_false] at hx; subst hx; rfl, by intro x hx; simp only [List.mem_cons, List.not_mem_nil, or_false] at hx; subst hx; rfl, fun adr => ?_⟩
 refine rW2 ?_
 refine bx (E := EE []) a9 (by kernel_rfl) (by kernel_rfl) (by kernel_rfl) ?_
 refine rW2 ?_
 refine eO rW rfl rfl (by simp) (by simp) rfl rfl ?_
 refine rW2 ?_
 refine rt ?_
 exact av 2 rfl rfl rfl Tryz.isAgg49 Tryz.sizeOf49 (by simp) (fun w hw => ⟨e12 (zq K6 [x.1, x.2, VV] (vK (vK (tm (ta j0 j1) (ta j0 (tvv 2 j1 rfl))) (tm j0 j1)) (tvv 2 (tm j0 j1) rfl)) (ta (tm j0 j0) (tm j2 (tm j1 j1)))) (zq K6 [x.1, x.2, VV] (ta (tm j0 j1) (tm j0 j1)) (ta (tm j0 j1) (tm j1 j0))), ah hw⟩)
theorem Ek (x : W12) : sb6 (K6.mul x.1 x.1) (v6 (K6.mul x.2 x.2)) = qnm K6 VV x := zq K6 [x.1, x.2, VV] (vK (tm j0 j0) (tvv 2 (tm j1 j1) rfl)) (ta (tm j0 j0) (tn (tm j2 (tm j1 j1))))
theorem G6 (x : W12) (n : W6) : K6.mul x.1 n = K6.add (K6.mul x.1 n) (K6.mul VV (K6.mul (K6.neg x.2) K6.zero)) := zq K6 [x.1, x.2, n, VV] (tm j0 j2) (ta (tm j0 j2) (tm j3 (tm (tn j1) tz0)))
theorem GH (x : W12) (n : W6) : K6.neg (K6.mul x.2 n) = K6.add (K6.mul x.1 K6.zero) (K6.mul (K6.neg x.2) n) := zq K6 [x.1, x.2, n] (tn (tm j1 j2)) (ta (tm j0 tz0) (tm (tn j1) j2))
theorem CF (x : W12) : Pure Tryz.prog Gt 134 [bt x] (bt (ep x)) := by
 refine aQ Tryz.func134 fun w hw hGF => ?_
 refine xp ?_
 refine lb fun b1 => ?_
 refine la zv49 fun b2 => ?_
 refine aa ?_
 refine bv (E := EE [2999999]) [0, 1, 2, 3, 4, 5, 6, 7] [⟨8, 3, 47, ((fe 0 ++ fe 0) ++ ((fe 0 ++ fe 0) ++ (fe 0 ++ fe 0))).map U64⟩] [9] a9 rfl (by kernel_rfl) (by kernel_rfl) (by kernel_rfl) (by kernel_rfl) (by kernel_rfl) (by kernel_rfl) (by decide) (by intro x hx; simp only [List.mem_cons, List.not_mem_nil, or_false] at hx; subst hx; exact a6 rfl zv47 rfl) ?_
 refine rW2 ?_
 refine ⟨_, _, rfl, hGF, by intro x hx; simp only [List.mem_cons, List.not_mem_nil, or_false] at hx; subst hx; rfl, by intro x hx; simp only [List.mem_cons, List.not_mem_nil, or_false] at hx; subst hx; rfl, fun adr => ?_⟩
 refine rW2 ?_
 refine pW2 ?_
 refine lc ent178 (wX _) ?_
 refine la zv47 fun b4 => ?_
 refine rW2 ?_
 refine bx (E := EE []) a9 (by kernel_rfl) (by kernel_rfl) (by kernel_rfl) ?_
 refine rW2 ?_
 refine lc ent99 (wc _) ?_
 refine eO rW rfl rfl (by simp) (by simp) rfl rfl ?_
 refine rW2 ?_
 refine rt ?_
 exact av 2 rfl rfl rfl Tryz.isAgg49 Tryz.sizeOf49 (by simp) (fun w hw => ⟨by rw [Ek]; exact e12 (G6 _ _) (GH _ _), ah hw⟩)
end Q6
end
section
open Go.RowKit
theorem ent149 : ae Tryz.prog 149 := fun _ _ => by kernel_rfl
namespace Q6
attribute [local simp] aY bj aF aA aL aW aM aK aO PLl cq cn N1l cm cp ck bd bk aX bg ba cg
theorem rW6 {Q P : Prop} (k : Q) (h : Q → P := by intro k; (refine LY.run ?_); (repeat (first | refine bC rfl rfl rfl ?_ | refine a7 rfl rfl rfl ?_ | ((refine qm rfl rfl ?_ rfl rfl ?_); (· simp)) | ((refine nC hGF rfl rfl rfl ?_ ?_ (ak _) rfl ?_); (· simp); (· simp)))); (first | refine bO ?_ | refine LY.mk ?_); exact k) : P := h k
theorem pW6 {Q P : Prop} (k : Q) (h : Q → P := by intro k; (refine xp ?_); (refine rW6 ?_); exact k) : P := h k
attribute [local simp] i7 fu
def BL (bs : List (BitVec 8)) : List (List Value) := (List.range (8 * bs.length)).map fun m => [.bool (decide (dj bs m = 1#8))]
theorem qP (bs : List (BitVec 8)) : (BL bs).length = 8 * bs.length := by simp [BL]
theorem u4 (bs : List (BitVec 8)) (m : Nat) (h : m < 8 * bs.length) : (BL bs)[m]? = some [.bool (decide (dj bs m = 1#8))] := by
 rw [BL, List.getElem?_map, List.getElem?_range h]; rfl
theorem Ho (bs : List (BitVec 8)) (m : Nat) (x : List Value) (h : (BL bs)[m]? = some x) : m < 8 * bs.length ∧ x = [.bool (decide (dj bs m = 1#8))] := by
 have hm : m < 8 * bs.length := by
  rcases Nat.lt_or_ge m (8 * bs.length) with h' | h'
  ·exact h'
  ·rw [List.getElem?_eq_none (by rw [qP]; exact h')] at h; cases h
 rw [u4 bs m hm] at h
 exact ⟨hm, (Option.some.inj h).symm⟩
theorem Cz (bs : List (BitVec 8)) (i j : Nat) (hj : j < 8) : (bs.getD i 0 &&& 128#8 >>> j != 0#8) = decide (dj bs (8 * i + j) = 1#8) := by
 rw [Cs j hj, dj, show (8 * i + j) / 8 = i by omega, show (8 * i + j) % 8 = j by omega]
theorem Gz (j : Nat) (hj : j ≤ 8) : decide (0#8 < 128#8 >>> j) = decide (j < 8) := by
 rcases Nat.lt_or_ge j 8 with h | h
 ·rw [decide_eq_true (Ej j h), decide_eq_true h]
 ·obtain rfl : j = 8 := by omega
  decide
theorem lT (sv : Value) (hs : sv.cells = #[sv]) (w : World) (hw : Gt w) : Calls Tryz.prog 81 [sv].toArray w (fun e w' => ∃ b1, e = .returned (.func (.func 149) #[] #[.pointer (some ⟨b1, 0, none⟩)]) ∧ Grow w w' ∧ w.heap.size ≤ b1 ∧ OwnB w' b1 [sv] 22) := by
 have hGF : BOk Gt (pl w) := gt_low.plain hw
 refine aN (G := Gt) Tryz.func81 rfl rfl (Hp (pl w) []) (a5 (pl w) trivial aq) (ay hGF) ?_
 refine xp ?_
 refine kQ 1 hGF rfl rfl rfl ?_
 intro b1
 refine rW6 ?_
 refine xp ?_
 refine iM rfl rfl rfl rfl ?_
 refine rW6 ?_
 refine rt ?_
 exact bh rfl rfl (fun w hw => ⟨b1, rfl, ah hw, (hw.own 1 b1 _ _ rfl).2.elim id False.elim, (by have := (hw.own 1 b1 _ _ rfl).1; rw [hs] at this; exact this)⟩)
theorem oT (bb : Nat) (e : Option Addr) (cap : Nat) (bs : List (BitVec 8)) (hlen : bs.length ≤ 1000000) : jA Tryz.prog Gt 149 [.pointer (some ⟨bb, 0, none⟩)] (BL bs) (RdD bb e cap bs) := by
 intro l J Jx hJ hJx hRd hGx hY w hj
 have okJ : ∀ k, BOk Gt (Bi w (fun Y => J Y k)) := fun k => ⟨fun _ _ _ h => (hRd _ _ _ h.rid).1, hJ k⟩
 have okX : ∀ k, BOk Gt (Bi w (fun Y => Jx Y k)) := fun k => ⟨fun _ _ _ h => hGx _ _ _ h.rid, hJx k⟩
 have c1 : ∀ k L w', Hp (Bi w (fun Y => J Y k)) L w' → RdD bb e cap bs w' := fun k L w' h => (hRd _ _ _ h.rid).2
 have hby := (hRd _ _ _ hj).2.2
 refine aN (G := Gt) Tryz.func149 rfl rfl (Hp (Bi w (fun Y => J Y 0)) []) (a5 (Bi w _) hj (hJ 0)) (ay (okJ 0)) ?_
 refine xp ?_
 refine cP rfl Tryz.isAgg22 (fun w h => (c1 _ _ w h).1) rfl rfl ?_
 refine bV rfl (fun _ => bi Tryz.underlying22 _ _ _ _) rfl rfl ?_
 refine rW6 ?_
 refine ap ?_
 refine gv (ι := { i : Nat // i ≤ bs.length }) (fun x => [(0, .func (.yield l) #[] #[]), (1, .pointer (some ⟨bb, 0, none⟩)), (6, .slice e bs.length cap), (7, I (bs.length : Int)), (8, I (x.1 : Int))]) (fun x => Bi w (fun Y => J Y (8 * x.1))) (fun x => []) (fun x => bs.length - x.1) ⟨0, Nat.zero_le _⟩ (fun _ => okJ _) rfl ⟨rfl, rfl, rfl, rfl, rfl, trivial⟩ trivial ?_
 rintro ⟨i, hi⟩
 dsimp only
 refine xp ?_
 refine ab rfl rfl (fun _ => rfl) (fun _ => aH _ _ _) rfl rfl ?_
 refine aa ?_
 refine ao ?_
 refine bE rfl (fun hc => ?_) (fun hc => ?_)
 ·have hi2 : i < bs.length := by simp at hc; omega
  refine aD ?_
  refine ao ?_
  refine ap ?_
  refine xp ?_
  obtain ⟨ad, rfl, _⟩ := hby i _ (gm U8 bs 0 i (by omega))
  refine jf i rfl rfl Tryz.underlying22 Tryz.sizeOf5 rfl (by omega) rfl rfl ?_
  refine cP rfl Tryz.isAgg5 (fun w' h => by obtain ⟨ad', e', hc'⟩ := (c1 _ _ w' h).2 i _ (gm U8 bs 0 i (by omega)); cases e'; exact hc') rfl rfl ?_
  refine rW6 ?_
  refine pW6 ?_
  refine ap ?_
  refine gv (ι := { j : Nat // j ≤ 8 }) (fun x => [(0, .func (.yield l) #[] #[]), (1, .pointer (some ⟨bb, 0, none⟩)), (6, .slice (some ad) bs.length cap), (7, I (bs.length : Int)), (8, I (i : Int)), (4, U8 (bs.getD i 0)), (5, U8 (128#8 >>> x.1))]) (fun x => Bi w (fun Y => J Y (8 * i + x.1))) (fun x => []) (fun x => 8 - x.1) ⟨0, Nat.zero_le _⟩ (fun _ => okJ _) rfl ⟨rfl, rfl, rfl, rfl, rfl, rfl, rfl, trivial⟩ trivial ?_
  rintro ⟨j, hj⟩
  dsimp only
  refine ao ?_
  refine pW6 ?_
  refine ab (v := .bool (decide (j < 8))) rfl rfl (fun _ => rfl) (fun _ => (qo _ _ _).trans (by rw [Gz j hj])) rfl rfl ?_
  refine aa ?_
  refine bE rfl (fun hc => ?_) (fun hc => ?_)
  ·have hj2 : j < 8 := by simpa using hc
   refine aD ?_
   refine ao ?_
   refine ap ?_
   refine pW6 ?_
   refine ab (v := U8 (bs.getD i 0 &&& 128#8 >>> j)) rfl rfl (fun _ => rfl) (fun _ => ia _ _ _) rfl rfl ?_
   refine ab (v := .bool (decide (dj bs (8 * i + j) = 1#8))) rfl rfl (fun _ => rfl) (fun _ => (qk _ _ 0#8).trans (by rw [Cz bs i j hj2])) rfl rfl ?_
   refine eQ (hY.b (k := 8 * i + j) (u4 bs (8 * i + j) (by omega)) w) (okJ _) (okX _) rfl rfl rfl rfl rfl ?_ ?_
   ·skip
    refine bR rfl (fun _ => bG _) rfl rfl ?_
    refine aa ?_
    refine bB rfl ?_
    refine aD ?_
    refine aw (E := EE []) ?_
    refine rW6 ?_
    refine ab (v := U8 (128#8 >>> (j + 1))) rfl rfl (fun _ => rfl) (fun _ => (kJ _ _ 1#64).trans (by rw [show (1#64).toNat = 1 from rfl, Di])) rfl rfl ?_
    refine rW6 ?_
    repeat (refine aR ?_)
    refine bc ?_
    exact ⟨rfl, ⟨j + 1, by omega⟩, _, by show 8 - (j + 1) < 8 - j; omega, rfl, ⟨rfl, rfl, rfl, rfl, rfl, rfl, rfl, trivial⟩, trivial⟩
   ·skip
    refine bR rfl (fun _ => bG _) rfl rfl ?_
    refine aa ?_
    refine cb rfl ?_
    refine rt ?_
    repeat (first | refine dJ ?_ | refine ce ?_ | refine dP rfl ?_ | refine bn ?_ | refine bq ?_)
    exact ez rfl (fun w hw => ⟨⟨_, rfl⟩, .inr ⟨_, cH (hJx _) hw.rid⟩⟩)
  ·obtain rfl : j = 8 := by simp at hc; omega
   refine aZ ?_
   refine aw (E := EE []) ?_
   refine ab rfl rfl (fun _ => rfl) (fun _ => aC _ _ _ (by unfold inI; omega)) rfl rfl ?_
   refine rW6 ?_
   repeat (refine aR ?_)
   refine bc ?_
   exact ⟨rfl, ⟨i + 1, by omega⟩, _, by show bs.length - (i + 1) < bs.length - i; omega, rfl, ⟨rfl, rfl, rfl, rfl, rfl, trivial⟩, trivial⟩
 ·obtain rfl : i = bs.length := by simp at hc; omega
  refine aZ ?_
  repeat (first | refine dJ ?_ | refine ce ?_ | refine dP rfl ?_ | refine bn ?_ | refine bq ?_)
  refine dS rfl (fun w hw => ⟨⟨_, rfl⟩, .inl ?_⟩)
  have := cH (hJ _) hw.rid
  rw [qP]
  exact this
theorem DM (x : W12) (bs : List (BitVec 8)) (i : Nat) (h : dj bs i = 1#8) : K12.mul (K12.mul (K12.pw x (BTn bs i)) (K12.pw x (BTn bs i))) x = K12.pw x (BTn bs (i + 1)) := by
 rcases ig bs i with ⟨_, e⟩ | ⟨h', _⟩
 ·rw [← K12.pw_add, BTn, e, Nat.two_mul]; rfl
 ·exact absurd h h'
theorem CX (x : W12) (bs : List (BitVec 8)) (i : Nat) (h : ¬ dj bs i = 1#8) : K12.mul (K12.pw x (BTn bs i)) (K12.pw x (BTn bs i)) = K12.pw x (BTn bs (i + 1)) := by
 rcases ig bs i with ⟨h', _⟩ | ⟨_, e⟩
 ·exact absurd h' h
 ·rw [← K12.pw_add, BTn, e, Nat.two_mul, Nat.add_zero]
theorem mJ (x : W12) (e : Option Addr) (cap : Nat) (bs : List (BitVec 8)) (hlen : bs.length ≤ 1000000) (w : World) (hw : Gt w) (hby : BytesAt w e bs) :
  Calls Tryz.prog 30 [bt x, .slice e bs.length cap].toArray w (fun r w' => r = .returned (bt (K12.pw x (BN bs bs.length))) ∧ Grow w w') := by
 have hGF : BOk Gt (pl w) := gt_low.plain hw
 refine ca (G := Gt) Tryz.func30 rfl rfl (Hp (pl w) []) (a5 (pl w) trivial aq) (ay hGF) ?_
 refine ac (E := EE [81]) ?_
 refine lb fun b2 => ?_
 refine la zv49 fun b4 => ?_
 refine aa ?_
 refine ac (E := EE [81]) ?_
 refine lc ent22 (gu) ?_
 refine la zv49 fun b5 => ?_
 refine rW6 ?_
 refine ao ?_
 refine ac (E := EE [81]) ?_
 refine rW6 ?_
 refine cw rfl rfl ent81 rfl rfl (fun w' hw' => (lT _ rfl w' (hGF.g _ _ _ hw')).mono fun e' w'' h => ?_)
 obtain ⟨c1, rfl, hg, h1, ho⟩ := h
 refine ⟨_, _, rfl, ay hGF, hw'.news aq hg [(33, c1, [.slice e bs.length cap], 22)] ?_ dp, ?_⟩
 ·intro n' b' c' t' hl
  rcases bl hl with ⟨_, e⟩ | ⟨_, hl⟩
  ·cases e; exact ⟨h1, ho⟩
  ·cases hl
 clear hw' hg h1 ho
 refine aa ?_
 refine ap ?_
 refine dV (fun _ => pl w) (fun _ _ => pl w) (fun _ => hGF) (fun _ _ => hGF) (fun _ => rfl) (fun _ _ => rfl) rfl rfl ent149 (oT c1 e cap bs hlen) (fun x hx => by obtain ⟨k, hk, rfl⟩ := List.mem_map.1 hx; rfl) rfl (fun k => [(2, b2, (((fe ((x).1.1).1 ++ fe ((x).1.1).2) ++ ((fe ((x).1.2.1).1 ++ fe ((x).1.2.1).2) ++ (fe ((x).1.2.2).1 ++ fe ((x).1.2.2).2))) ++ ((fe ((x).2.1).1 ++ fe ((x).2.1).2) ++ ((fe ((x).2.2.1).1 ++ fe ((x).2.2.1).2) ++ (fe ((x).2.2.2).1 ++ fe ((x).2.2.2).2)))).map U64, 49), (4, b4, (((fe 0 ++ fe 0) ++ ((fe 0 ++ fe 0) ++ (fe 0 ++ fe 0))) ++ ((fe 0 ++ fe 0) ++ ((fe 0 ++ fe 0) ++ (fe 0 ++ fe 0)))).map U64, 49), (5, b5, (((fe ((K12.pw x (BTn bs k)).1.1).1 ++ fe ((K12.pw x (BTn bs k)).1.1).2) ++ ((fe ((K12.pw x (BTn bs k)).1.2.1).1 ++ fe ((K12.pw x (BTn bs k)).1.2.1).2) ++ (fe ((K12.pw x (BTn bs k)).1.2.2).1 ++ fe ((K12.pw x (BTn bs k)).1.2.2).2))) ++ ((fe ((K12.pw x (BTn bs k)).2.1).1 ++ fe ((K12.pw x (BTn bs k)).2.1).2) ++ ((fe ((K12.pw x (BTn bs k)).2.2.1).1 ++ fe ((K12.pw x (BTn bs k)).2.2.1).2) ++ (fe ((K12.pw x (BTn bs k)).2.2.2).1 ++ fe ((K12.pw x (BTn bs k)).2.2.2).2)))).map U64, 49), (33, c1, [.slice e bs.length cap], 22)]) (fun _ _ _ => False) ⟨rfl, rfl, rfl, rfl, trivial⟩ (fun k _ w' h => ⟨cz (n := 33) rfl rfl w' h, hby.grow (h.below (fun _ h => h))⟩) ?_ ?_ (fun _ _ _ _ _ h => h.elim)
 ·intro k v hx R hR
  obtain ⟨hk, rfl⟩ := Ho bs k v hx
  refine aw (E := EE [81]) ?_
  refine rW6 ?_
  refine ⟨rfl, _, rfl, ?_⟩
  refine ap ?_
  refine ac (E := EE [81]) ?_
  refine rW6 ?_
  refine lc ent82 (fB _) ?_
  refine ai 5 (hR (pl w) rfl hGF).2.1 rfl rfl rfl Tryz.sizeOf49 (by simp) (by simp) (ak _) rfl ?_
  refine aa ?_
  refine ac (E := EE [81]) ?_
  refine rW6 ?_
  refine bE rfl (fun hc => ?_) (fun hc => ?_)
  ·have hq : dj bs k = 1#8 := of_decide_eq_true hc
   refine aw (E := EE [81]) ?_
   refine rW6 ?_
   refine lc ent35 (lM _ _) ?_
   refine ai 5 (hR (pl w) rfl hGF).2.1 rfl rfl rfl Tryz.sizeOf49 (by simp) (by simp) (ak _) rfl ?_
   refine aa ?_
   repeat (refine aR ?_)
   exact ⟨_, rfl, ⟨rfl, rfl, by rw [← DM x bs k hq]; rfl, rfl, trivial⟩⟩
  ·have hq : ¬ dj bs k = 1#8 := of_decide_eq_false hc
   refine aD ?_
   repeat (refine aR ?_)
   exact ⟨_, rfl, ⟨rfl, rfl, by rw [← CX x bs k hq]; rfl, rfl, trivial⟩⟩
 ·intro D hD
  rw [qP, gI]
  refine ac (E := EE [81]) ?_
  refine rW6 ?_
  refine ai 4 hD rfl rfl rfl Tryz.sizeOf49 (by simp) (by simp) (ak _) rfl ?_
  refine aa ?_
  refine rt ?_
  exact df (.inl rfl) aq (av 4 rfl rfl rfl Tryz.isAgg49 Tryz.sizeOf49 (by simp) (fun w hw => ⟨rfl, ah hw⟩))
theorem l8 (x : W12) (e : Option Addr) (cap : Nat) (bs : List (BitVec 8)) (h : bs.length ≤ 1000) (w : World) (hw : Gt w) (hby : BytesAt w e bs) : Calls Tryz.prog 30 [bt x, .slice e bs.length cap].toArray w (fun r w' => r = .returned (bt (K12.pw x (BN bs bs.length))) ∧ Grow w w') := mJ x e cap bs (by omega) w hw hby
end Q6
end
section
open Go.RowKit
theorem ent195 : ae Tryz.prog 195 := fun _ _ => by kernel_rfl
namespace Q6
attribute [local simp] aY bj aF aA aL aW aM aK aO PLl cq cn N1l cm cp ck bd bk aX bg ba cg
theorem rW7 {Q P : Prop} (k : Q) (h : Q → P := by intro k; (refine LY.run ?_); (repeat (first | refine bC rfl rfl rfl ?_ | refine a7 rfl rfl rfl ?_ | ((refine tF rfl rfl ?_ rfl rfl ?_); (· simp)) | ((refine nC hGF rfl rfl rfl ?_ ?_ (ak _) rfl ?_); (· simp); (· simp)) | ((refine I5 hGF rfl rfl rfl ?_ ?_ (ak _) rfl ?_); (· simp); (· simp)))); (first | refine bO ?_ | refine LY.mk ?_); exact k) : P := h k
theorem pW7 {Q P : Prop} (k : Q) (h : Q → P := by intro k; (refine xp ?_); (refine rW7 ?_); exact k) : P := h k
attribute [local simp] i7 fu
theorem zv192 (w : World) : (zeroValue 192).run Tryz.prog w = .ok (.agg ((FM (FF fun _ => ze2) 6).map U64).toArray) w := by
 rw [iE]; exact (Tryz.zeroValue192 w).trans (by rfl)
abbrev TV6 (f : Nat → W2) : Value := .agg ((FM (FF f) 6).map U64).toArray
theorem CD (f z : Nat → List (BitVec 64)) : ∀ i, i < 6 → tQ f [0, 1, 2, 3, 4, 5] z i = f i := fun i hi => sM _ _ _ _ (.inl (by
 match i, hi with
 | 0, _ => decide
 | 1, _ => decide
 | 2, _ => decide
 | 3, _ => decide
 | 4, _ => decide
 | 5, _ => decide))
theorem zO (x : W12) : Pure Tryz.prog Gt 196 [bt x] (TV6 (p12 x)) := by
 refine aQ Tryz.func196 fun w hw hGF => ?_
 refine xp ?_
 refine lb fun b1 => ?_
 refine la zv192 fun b2 => ?_
 refine aa ?_
 refine xp ?_
 refine bu 0 rfl Tryz.underlying49 rfl Tryz.sizeOf47 (by decide) rfl rfl rfl ?_
 refine bu 0 rfl Tryz.underlying47 rfl Tryz.sizeOf33 (by decide) rfl rfl rfl ?_
 refine aT 1 _ rfl rfl Tryz.isAgg33 Tryz.sizeOf33 (by simp) (xb lR) rfl rfl ?_
 refine bu 36 rfl Tryz.underlying49 rfl Tryz.sizeOf47 (by decide) rfl rfl rfl ?_
 refine bu 36 rfl Tryz.underlying47 rfl Tryz.sizeOf33 (by decide) rfl rfl rfl ?_
 refine aT 1 _ rfl rfl Tryz.isAgg33 Tryz.sizeOf33 (by simp) (qG (m := 36) (o := 0) (by simp) rfl lR) rfl rfl ?_
 refine bu 0 rfl Tryz.underlying49 rfl Tryz.sizeOf47 (by decide) rfl rfl rfl ?_
 refine bu 12 rfl Tryz.underlying47 rfl Tryz.sizeOf33 (by decide) rfl rfl rfl ?_
 refine aT 1 _ rfl rfl Tryz.isAgg33 Tryz.sizeOf33 (by simp) (xb (Fu (by simp))) rfl rfl ?_
 refine bu 36 rfl Tryz.underlying49 rfl Tryz.sizeOf47 (by decide) rfl rfl rfl ?_
 refine bu 48 rfl Tryz.underlying47 rfl Tryz.sizeOf33 (by decide) rfl rfl rfl ?_
 refine aT 1 _ rfl rfl Tryz.isAgg33 Tryz.sizeOf33 (by simp) (qG (m := 36) (o := 12) (by simp) rfl (Fu (m := 12) (by simp))) rfl rfl ?_
 refine bu 0 rfl Tryz.underlying49 rfl Tryz.sizeOf47 (by decide) rfl rfl rfl ?_
 refine bu 24 rfl Tryz.underlying47 rfl Tryz.sizeOf33 (by decide) rfl rfl rfl ?_
 refine aT 1 _ rfl rfl Tryz.isAgg33 Tryz.sizeOf33 (by simp) (xb (yf (m := 12) (n := 12) (by simp) (by simp) rfl)) rfl rfl ?_
 refine bu 36 rfl Tryz.underlying49 rfl Tryz.sizeOf47 (by decide) rfl rfl rfl ?_
 refine bu 60 rfl Tryz.underlying47 rfl Tryz.sizeOf33 (by decide) rfl rfl rfl ?_
 refine aT 1 _ rfl rfl Tryz.isAgg33 Tryz.sizeOf33 (by simp) (qG (m := 36) (o := 24) (by simp) rfl (yf (m := 12) (n := 12) (by simp) (by simp) rfl)) rfl rfl ?_
 refine xa (s := 12) (FF (p12 x)) (FF (p12 x)) [0, 1, 2, 3, 4, 5] rfl rfl rfl (fun i _ => aX _) Tryz.underlying192 Tryz.sizeOf33 zv192 (CD _ _) rfl rfl ?_
 refine rW7 ?_
 refine rt ?_
 exact av 2 rfl rfl rfl Tryz.isAgg192 Tryz.sizeOf192 (by simp) (fun w hw => ⟨rfl, ah hw⟩)
theorem IY (f : Nat → W2) : Pure Tryz.prog Gt 176 [TV6 f] (bt (tq f)) := by
 refine aQ Tryz.func176 fun w hw hGF => ?_
 refine xp ?_
 refine lb fun b1 => ?_
 refine la zv49 fun b2 => ?_
 refine aa ?_
 refine xp ?_
 refine bJ (0) (12 * (0)) rfl rfl Tryz.underlying192 Tryz.sizeOf33 (by omega) (by omega) (by omega) rfl rfl ?_
 refine aT 1 ((fe (f 0).1 ++ fe (f 0).2).map U64) rfl rfl Tryz.isAgg33 Tryz.sizeOf33 (by simp) (bY _ (f 0) 6 (0) _ (by omega) rfl (rfl)) rfl rfl ?_
 refine bJ (2) (12 * (2)) rfl rfl Tryz.underlying192 Tryz.sizeOf33 (by omega) (by omega) (by omega) rfl rfl ?_
 refine aT 1 ((fe (f 2).1 ++ fe (f 2).2).map U64) rfl rfl Tryz.isAgg33 Tryz.sizeOf33 (by simp) (bY _ (f 2) 6 (2) _ (by omega) rfl (rfl)) rfl rfl ?_
 refine bJ (4) (12 * (4)) rfl rfl Tryz.underlying192 Tryz.sizeOf33 (by omega) (by omega) (by omega) rfl rfl ?_
 refine aT 1 ((fe (f 4).1 ++ fe (f 4).2).map U64) rfl rfl Tryz.isAgg33 Tryz.sizeOf33 (by simp) (bY _ (f 4) 6 (4) _ (by omega) rfl (rfl)) rfl rfl ?_
 refine d8 ip rfl rfl rfl (by simp) (by simp) (by simp) rfl rfl ?_
 refine bJ (1) (12 * (1)) rfl rfl Tryz.underlying192 Tryz.sizeOf33 (by omega) (by omega) (by omega) rfl rfl ?_
 refine aT 1 ((fe (f 1).1 ++ fe (f 1).2).map U64) rfl rfl Tryz.isAgg33 Tryz.sizeOf33 (by simp) (bY _ (f 1) 6 (1) _ (by omega) rfl (rfl)) rfl rfl ?_
 refine bJ (3) (12 * (3)) rfl rfl Tryz.underlying192 Tryz.sizeOf33 (by omega) (by omega) (by omega) rfl rfl ?_
 refine aT 1 ((fe (f 3).1 ++ fe (f 3).2).map U64) rfl rfl Tryz.isAgg33 Tryz.sizeOf33 (by simp) (bY _ (f 3) 6 (3) _ (by omega) rfl (rfl)) rfl rfl ?_
 refine bJ (5) (12 * (5)) rfl rfl Tryz.underlying192 Tryz.sizeOf33 (by omega) (by omega) (by omega) rfl rfl ?_
 refine aT 1 ((fe (f 5).1 ++ fe (f 5).2).map U64) rfl rfl Tryz.isAgg33 Tryz.sizeOf33 (by simp) (bY _ (f 5) 6 (5) _ (by omega) rfl (rfl)) rfl rfl ?_
 refine d8 ip rfl rfl rfl (by simp) (by simp) (by simp) rfl rfl ?_
 refine eO rW rfl rfl (by simp) (by simp) rfl rfl ?_
 refine rW7 ?_
 refine rt ?_
 exact av 2 rfl rfl rfl Tryz.isAgg49 Tryz.sizeOf49 (by simp) (fun w hw => ⟨rfl, ah hw⟩)
theorem kS (x : W12) (w : World) (hw : Gt w) : Calls Tryz.prog 175 [bt x].toArray w (fun e w' => ∃ b1, e = .returned (.func (.func 195) #[] #[.pointer (some ⟨b1, 0, none⟩)]) ∧ Grow w w' ∧ w.heap.size ≤ b1 ∧ OwnB w' b1 ((((fe (x.1.1).1 ++ fe (x.1.1).2) ++ ((fe (x.1.2.1).1 ++ fe (x.1.2.1).2) ++ (fe (x.1.2.2).1 ++ fe (x.1.2.2).2))) ++ ((fe (x.2.1).1 ++ fe (x.2.1).2) ++ ((fe (x.2.2.1).1 ++ fe (x.2.2.1).2) ++ (fe (x.2.2.2).1 ++ fe (x.2.2.2).2)))).map U64) 49) := by
 have hGF : BOk Gt (pl w) := gt_low.plain hw
 refine aN (G := Gt) Tryz.func175 rfl rfl (Hp (pl w) []) (a5 (pl w) trivial aq) (ay hGF) ?_
 refine xp ?_
 refine lb fun b1 => ?_
 refine rW7 ?_
 refine xp ?_
 refine iM rfl rfl rfl rfl ?_
 refine rW7 ?_
 refine rt ?_
 exact bh rfl rfl (fun w hw => ⟨b1, rfl, ah hw, (hw.own 1 b1 _ _ rfl).2.elim id False.elim, (hw.own 1 b1 _ _ rfl).1⟩)
def uj (x : W12) : List (List Value) := (List.range 6).map fun (k : Nat) => [I (k : Int), EV2 (p12 x k)]
theorem lu (x : W12) : (uj x).length = 6 := by rw [uj, List.length_map, List.length_range]
theorem ot (x : W12) (k : Nat) (h : k < 6) : (uj x)[k]? = some [I (k : Int), EV2 (p12 x k)] := by
 rw [uj, List.getElem?_map, List.getElem?_range h]; rfl
theorem zx (x : W12) (k : Nat) (v : List Value) (h : (uj x)[k]? = some v) : k < 6 ∧ v = [I (k : Int), EV2 (p12 x k)] := by
 have hk : k < 6 := by
  rcases Nat.lt_or_ge k 6 with hk | hk
  ·exact hk
  ·rw [List.getElem?_eq_none (by rw [lu]; exact hk)] at h; cases h
 exact ⟨hk, (Option.some.inj ((ot x k hk).symm.trans h)).symm⟩
def BK (bb : Nat) (x : W12) : Cls := fun w => w.rangeAt bb 0 ((((fe (x.1.1).1 ++ fe (x.1.1).2) ++ ((fe (x.1.2.1).1 ++ fe (x.1.2.1).2) ++ (fe (x.1.2.2).1 ++ fe (x.1.2.2).2))) ++ ((fe (x.2.1).1 ++ fe (x.2.1).2) ++ ((fe (x.2.2.1).1 ++ fe (x.2.2.1).2) ++ (fe (x.2.2.2).1 ++ fe (x.2.2.2).2)))).map U64)
theorem Fs (bb : Nat) (x : W12) : jA Tryz.prog Gt 195 [.pointer (some ⟨bb, 0, none⟩)] (uj x) (BK bb x) := by
 intro l J Jx hJ hJx hRd hGx hY w hj
 have okJ : ∀ k, BOk Gt (Bi w (fun Y => J Y k)) := fun k => ⟨fun _ _ _ h => (hRd _ _ _ h.rid).1, hJ k⟩
 have okX : ∀ k, BOk Gt (Bi w (fun Y => Jx Y k)) := fun k => ⟨fun _ _ _ h => hGx _ _ _ h.rid, hJx k⟩
 have c1 : ∀ k L w', Hp (Bi w (fun Y => J Y k)) L w' → BK bb x w' := fun k L w' h => (hRd _ _ _ h.rid).2
 refine aN (G := Gt) Tryz.func195 rfl rfl (Hp (Bi w (fun Y => J Y 0)) []) (a5 (Bi w _) hj (hJ 0)) (ay (okJ 0)) ?_
 refine xp ?_
 refine dZ rfl Tryz.isAgg49 Tryz.sizeOf49 (by simp) (fun w h => c1 _ _ w h) rfl rfl ?_
 refine lc ent196 (zO _) ?_
 refine rW7 ?_
 refine ap ?_
 refine gv (ι := { i : Nat // i ≤ 6 }) (fun y => [(0, .func (.yield l) #[] #[]), (1, .pointer (some ⟨bb, 0, none⟩)), (6, TV6 (p12 x)), (7, I (y.1 : Int))]) (fun y => Bi w (fun Y => J Y y.1)) (fun y => []) (fun y => 6 - y.1) ⟨0, Nat.zero_le _⟩ (fun _ => okJ _) rfl ⟨rfl, rfl, rfl, rfl, trivial⟩ trivial ?_
 rintro ⟨i, hi⟩
 dsimp only
 refine xp ?_
 refine ab rfl rfl (fun _ => rfl) (fun _ => aH _ _ _) rfl rfl ?_
 refine aa ?_
 refine ao ?_
 refine bE rfl (fun hc => ?_) (fun hc => ?_)
 ·have hi2 : i < 6 := by simp at hc; omega
  refine aD ?_
  refine ao ?_
  refine ap ?_
  refine pW7 ?_
  refine rO (FF (p12 x)) (i) rfl rfl Tryz.underlying192 Tryz.sizeOf33 Tryz.isAgg33 (by omega) (by omega) (aX _) rfl rfl ?_
  refine bU 4 (okJ _) zv33 rfl rfl ?_
  intro b4
  refine rW7 ?_
  refine ai 4 (okJ _) rfl rfl rfl Tryz.sizeOf33 (by simp) (by simp) (ak _) rfl ?_
  refine aa ?_
  refine pW7 ?_
  refine eQ (hY.b (k := i) (ot x i (by omega)) w) (okJ _) (okX _) rfl rfl rfl rfl rfl ?_ ?_
  ·skip
   refine bR rfl (fun _ => bG _) rfl rfl ?_
   refine aa ?_
   refine bB rfl ?_
   refine aD ?_
   refine aw (E := EE []) ?_
   refine ab rfl rfl (fun _ => rfl) (fun _ => aC _ _ _ (by unfold inI; omega)) rfl rfl ?_
   refine rW7 ?_
   repeat (refine aR ?_)
   refine bc ?_
   exact ⟨rfl, ⟨i + 1, by omega⟩, _, by show 6 - (i + 1) < 6 - i; omega, rfl, ⟨rfl, rfl, rfl, rfl, trivial⟩, trivial⟩
  ·skip
   refine bR rfl (fun _ => bG _) rfl rfl ?_
   refine aa ?_
   refine cb rfl ?_
   refine rt ?_
   repeat (first | refine dJ ?_ | refine ce ?_ | refine dP rfl ?_ | refine bn ?_ | refine bq ?_)
   exact ez rfl (fun w hw => ⟨⟨_, rfl⟩, .inr ⟨_, cH (hJx _) hw.rid⟩⟩)
 ·obtain rfl : i = 6 := by simp at hc; omega
  refine aZ ?_
  repeat (first | refine dJ ?_ | refine ce ?_ | refine dP rfl ?_ | refine bn ?_ | refine bq ?_)
  refine dS rfl (fun w hw => ⟨⟨_, rfl⟩, .inl ?_⟩)
  have := cH (hJ _) hw.rid
  rw [lu]
  exact this
end Q6
end
section
open Go.RowKit
namespace Q6
attribute [local simp] aY bj aF aA aL aW aM aK aO PLl cq cn N1l cm cp ck bd bk aX bg ba cg
theorem fl {Q P : Prop} (k : Q) (h : Q → P := by intro k; (refine LY.run ?_); (repeat (first | refine bC rfl rfl rfl ?_ | refine a7 rfl rfl rfl ?_ | ((refine tF rfl rfl ?_ rfl rfl ?_); (· simp)) | ((refine m6 rfl rfl ?_ rfl rfl ?_); (· simp)) | ((refine qm rfl rfl ?_ rfl rfl ?_); (· simp)) | ((refine Ic rfl rfl ?_ rfl rfl ?_); (· simp)) | ((refine xv hGF rfl rfl rfl ?_ ?_ (ak _) rfl ?_); (· simp); (· simp)) | ((refine oY hGF rfl rfl rfl ?_ ?_ (ak _) rfl ?_); (· simp); (· simp)) | refine ec rfl rfl rfl rfl ?_ | refine bz (f := 107) rfl rfl ent107 (w4) rfl rfl ?_ | refine bz (f := 171) rfl rfl ent171 (xI _) rfl rfl ?_)); (first | refine bO ?_ | refine LY.mk ?_); exact k) : P := h k
attribute [local simp] i7 fu
theorem pd (e : Option Addr) (cap : Nat) (w : World) (hw : Gt w) (hby : BytesAt w e SXB) :
  Calls Tryz.prog 46 [.slice e SXB.length cap].toArray w (fun r w' => r = .returned (.tuple #[EV SR, .bool (FO SXB)]) ∧ Grow w w') := by
 have h := fj e cap SXB w hw hby
 rw [CZ] at h
 exact h
theorem Iq {m : Nat} (h : m % 2 = 1) (y : W2) (k : Nat) : frq y m k = ml2 (cj2 y) (pw2 (GV m) k) := by rw [frq, cjn, if_pos h]
theorem HA {m : Nat} (h : ¬ m % 2 = 1) (y : W2) (k : Nat) : frq y m k = ml2 y (pw2 (GV m) k) := by rw [frq, cjn, if_neg h]
theorem GV_s (i : Nat) : GV (i + 1) = ml2 (cj2 (GV i)) ((SR, -SR) : W2) := by rw [HM]; rfl
theorem vA (n : Nat) (hn : n ≤ 1000) : Pure Tryz.prog Gt 174 [I (n : Int)] (EV2 (GV n)) := by
 refine aQ Tryz.func174 fun w hw hGF => ?_
 refine ac (E := EE [1000022]) ?_
 refine la zv33 fun b2 => ?_
 refine aa ?_
 refine ac (E := EE [1000022]) ?_
 refine qY 8 SXB hGF rfl rfl rfl (by decide) (by decide) Tryz.underlying22 Tryz.sizeOf5 Tryz.zeroValue5 rfl rfl ?_
 intro b8
 refine rq 8 rfl hGF rfl rfl Tryz.underlying22 Tryz.underlying5 rfl rfl ?_
 refine bS rfl rfl ent46 (fun w' hC hG => pd _ _ w' hG (BytesAt.range (hC.own 8 b8 _ _ rfl).1.range)) rfl rfl ?_
 refine fl ?_
 refine la zv27 fun b3 => ?_
 refine fl ?_
 refine bv (E := EE [1000022, 2999999]) [0, 1, 2, 3] [⟨4, 5, 33, (fe 0 ++ fe 0).map U64⟩] [5] a9 rfl (by kernel_rfl) (by kernel_rfl) (by kernel_rfl) (by kernel_rfl) (by kernel_rfl) (by kernel_rfl) (by decide) (by intro x hx; simp only [List.mem_cons, List.not_mem_nil, or_false] at hx; subst hx; exact a6 rfl zv33 rfl) ?_
 refine fl ?_
 refine lc ent100 (mC _) ?_
 refine eO xh rfl rfl (by simp) (by simp) rfl rfl ?_
 refine aa ?_
 refine ⟨_, _, rfl, hGF, by intro x hx; simp only [List.mem_cons, List.not_mem_nil, or_false] at hx; subst hx; rfl, by intro x hx; simp only [List.mem_cons, List.not_mem_nil, or_false] at hx; subst hx; rfl, fun adr => ?_⟩
 refine fl ?_
 refine ac (E := EE [1000022]) ?_
 refine fl ?_
 refine la zv33 fun b6 => ?_
 refine fl ?_
 refine ao ?_
 refine ac (E := EE [1000022]) ?_
 refine fl ?_
 refine ap ?_
 refine bL (ι := { i : Nat // i ≤ n }) (fun y => [(0, I (n : Int)), (2, .pointer (some ⟨b2, 0, none⟩)), (3, .pointer (some ⟨b3, 0, none⟩)), (5, .pointer (some ⟨(adr 5), 0, none⟩)), (6, .pointer (some ⟨b6, 0, none⟩)), (18, I (n : Int)), (19, I (y.1 : Int))]) (fun y => [(2, b2, (fe 0 ++ fe 0).map U64, 33), (3, b3, (fe SR).map U64, 27), (5, adr 5, (fe SR ++ fe (-SR)).map U64, 33), (6, b6, (fe (GV y.1).1 ++ fe (GV y.1).2).map U64, 33)]) (fun y => n - y.1) ⟨0, Nat.zero_le _⟩ hGF ⟨rfl, rfl, rfl, rfl, rfl, rfl, rfl, trivial⟩ ⟨rfl, rfl, rfl, rfl, trivial⟩ ?_
 rintro ⟨i, hi⟩
 dsimp only
 refine ac (E := EE [1000022]) ?_
 refine ab rfl rfl (fun _ => rfl) (fun _ => aH _ _ _) rfl rfl ?_
 refine aa ?_
 refine ao ?_
 refine bE rfl (fun hc => ?_) (fun hc => ?_)
 ·simp only [decide_eq_true_eq] at hc
  refine aD ?_
  refine ao ?_
  refine ap ?_
  refine ci (E := EE [1000022]) a9 (by kernel_rfl) (by kernel_rfl) (by kernel_rfl) ?_
  refine fl ?_
  refine aE rfl rfl ent130 (lq (cj2 (GV i)) ((SR, -SR) : W2)) rfl rfl ?_
  refine fl ?_
  refine aw (E := EE [1000022]) ?_
  refine ab rfl rfl (fun _ => rfl) (fun _ => aC _ _ _ (by unfold inI; omega)) rfl rfl ?_
  refine fl ?_
  repeat (refine aR ?_)
  refine bc ?_
  exact ⟨rfl, ⟨i + 1, by omega⟩, _, by show n - (i + 1) < n - i; omega, rfl, ⟨rfl, rfl, rfl, rfl, rfl, rfl, rfl, trivial⟩, ⟨rfl, rfl, rfl, by rw [GV_s i]; rfl, trivial⟩⟩
 ·obtain rfl : n = i := by simp at hc; omega
  refine aZ ?_
  refine ac (E := EE [1000022]) ?_
  refine fl ?_
  refine rt ?_
  exact av 2 rfl rfl rfl Tryz.isAgg33 Tryz.sizeOf33 (by simp) (fun w hw => ⟨rfl, ah hw⟩)
theorem s9 (x : W12) (n : Int) : Pure Tryz.prog Gt 132 [bt x, I n] (bt (gX x (n % 12).toNat)) := by
 intro w hw
 have hGF : BOk Gt (pl w) := gt_low.plain hw
 obtain ⟨m, hm⟩ : ∃ m : Nat, (n % 12).toNat = m := ⟨_, rfl⟩
 have hm6 : m < 12 := by omega
 rw [hm, sA]
 refine ca (G := Gt) Tryz.func132 rfl rfl (Hp (pl w) []) (a5 (pl w) trivial aq) (ay hGF) ?_
 refine ac (E := EE [175]) ?_
 refine lb fun b2 => ?_
 refine kQ 3 hGF rfl rfl rfl ?_
 intro b3
 refine la zv49 fun b4 => ?_
 refine aa ?_
 refine ac (E := EE [175]) ?_
 refine cS 3 rfl rfl rfl Tryz.isAgg3 rfl rfl ?_
 refine ab (v := I (n.tmod 12)) rfl rfl (fun _ => rfl) (fun _ => cN _ _ _ (by decide)) rfl rfl ?_
 refine ab (v := I (n.tmod 12 + 12)) rfl rfl (fun _ => rfl) (fun _ => aC _ _ _ (xG n)) rfl rfl ?_
 refine ab (v := I (m : Int)) rfl rfl (fun _ => rfl) (fun _ => (cN _ _ _ (by decide)).trans (by rw [GY, hm])) rfl rfl ?_
 refine dH 3 hGF rfl rfl rfl Tryz.sizeOf3 rfl (by show 0 < 1; decide) rfl ?_
 refine aa ?_
 refine ac (E := EE [175]) ?_
 refine cS 3 rfl rfl rfl Tryz.isAgg3 rfl rfl ?_
 refine aE rfl rfl ent174 (vA m (by omega)) rfl rfl ?_
 refine fl ?_
 refine la zv33 fun b5 => ?_
 refine la zv33 fun b6 => ?_
 refine fl ?_
 refine ac (E := EE [175]) ?_
 refine la zv192 fun b7 => ?_
 refine aa ?_
 refine ao ?_
 refine ac (E := EE [175]) ?_
 refine fl ?_
 refine cw rfl rfl ent175 rfl rfl (fun w' hw' => (kS x w' (hGF.g _ _ _ hw')).mono fun e' w'' h => ?_)
 obtain ⟨c1, rfl, hg, h1, ho⟩ := h
 refine ⟨_, _, rfl, ay hGF, hw'.news aq hg [(33, c1, (((fe (x.1.1).1 ++ fe (x.1.1).2) ++ ((fe (x.1.2.1).1 ++ fe (x.1.2.1).2) ++ (fe (x.1.2.2).1 ++ fe (x.1.2.2).2))) ++ ((fe (x.2.1).1 ++ fe (x.2.1).2) ++ ((fe (x.2.2.1).1 ++ fe (x.2.2.1).2) ++ (fe (x.2.2.2).1 ++ fe (x.2.2.2).2)))).map U64, 49)] ?_ dp, ?_⟩
 ·intro n' b' c' t' hl
  rcases bl hl with ⟨_, e⟩ | ⟨_, hl⟩
  ·cases e; exact ⟨h1, ho⟩
  ·cases hl
 clear hw' hg h1 ho
 refine aa ?_
 refine ap ?_
 refine dV (fun _ => pl w) (fun _ _ => pl w) (fun _ => hGF) (fun _ _ => hGF) (fun _ => rfl) (fun _ _ => rfl) rfl rfl ent195 (Fs c1 x) (fun v hv => by obtain ⟨k, hk, rfl⟩ := List.mem_map.1 hv; rfl) rfl (fun k => [(2, b2, (((fe (x.1.1).1 ++ fe (x.1.1).2) ++ ((fe (x.1.2.1).1 ++ fe (x.1.2.1).2) ++ (fe (x.1.2.2).1 ++ fe (x.1.2.2).2))) ++ ((fe (x.2.1).1 ++ fe (x.2.1).2) ++ ((fe (x.2.2.1).1 ++ fe (x.2.2.1).2) ++ (fe (x.2.2.2).1 ++ fe (x.2.2.2).2)))).map U64, 49), (3, b3, [I (m : Int)], 3), (4, b4, (((fe 0 ++ fe 0) ++ ((fe 0 ++ fe 0) ++ (fe 0 ++ fe 0))) ++ ((fe 0 ++ fe 0) ++ ((fe 0 ++ fe 0) ++ (fe 0 ++ fe 0)))).map U64, 49), (5, b5, (fe (GV m).1 ++ fe (GV m).2).map U64, 33), (6, b6, (fe (pw2 (GV m) k).1 ++ fe (pw2 (GV m) k).2).map U64, 33), (7, b7, (FM (FF (fun j => if j < k then frq (p12 x j) m j else ze2)) 6).map U64, 192), (33, c1, (((fe (x.1.1).1 ++ fe (x.1.1).2) ++ ((fe (x.1.2.1).1 ++ fe (x.1.2.1).2) ++ (fe (x.1.2.2).1 ++ fe (x.1.2.2).2))) ++ ((fe (x.2.1).1 ++ fe (x.2.1).2) ++ ((fe (x.2.2.1).1 ++ fe (x.2.2.1).2) ++ (fe (x.2.2.2).1 ++ fe (x.2.2.2).2)))).map U64, 49)]) (fun _ _ _ => False) ⟨rfl, rfl, rfl, rfl, rfl, congrArg (fun l => some (b7, l, _)) (congrArg (List.map U64) (dX fun j _ => (if_neg (Nat.not_lt_zero j)).symm)), rfl, trivial⟩ (fun k _ w' h => cB (n := 33) rfl w' h) ?_ ?_ (fun _ _ _ _ _ h => h.elim)
 ·intro k v hx R hR
  obtain ⟨hk, rfl⟩ := zx x k v hx
  refine ac (E := EE [175]) ?_
  refine fl ?_
  refine aw (E := EE [175]) ?_
  refine bU 9 (hR (pl w) rfl hGF).1 zv33 rfl rfl ?_
  intro b9
  refine ai 9 (hR (pl w) rfl hGF).1 rfl rfl rfl Tryz.sizeOf33 (by simp) (by simp) (ak _) rfl ?_
  refine aa ?_
  refine ⟨rfl, _, rfl, ?_⟩
  refine ap ?_
  refine ao ?_
  refine ac (E := EE [175]) ?_
  refine cS 3 rfl rfl rfl Tryz.isAgg3 rfl rfl ?_
  refine ab (v := I ((m % 2 : Nat) : Int)) rfl rfl (fun _ => rfl) (fun _ => cN _ _ _ (by decide)) rfl rfl ?_
  refine ab rfl rfl (fun _ => rfl) (fun _ => tk _ _ _) rfl rfl ?_
  refine aa ?_
  refine bE rfl (fun hc => ?_) (fun hc => ?_)
  ·have hp : m % 2 = 1 := by simp at hc; omega
   refine aw (E := EE [175]) ?_
   refine fl ?_
   refine ai 9 (hR (pl w) rfl hGF).2.1 rfl rfl rfl Tryz.sizeOf33 (by simp) (by simp) (ak _) rfl ?_
   refine aa ?_
   refine ac (E := EE [175]) ?_
   refine fl ?_
   refine lc ent130 (lq _ _) ?_
   refine bJ (k) (12 * (k)) rfl rfl Tryz.underlying192 Tryz.sizeOf33 (by omega) (by omega) (by omega) rfl rfl ?_
   refine db 7 ((FM (FF (fun j => if j < k + 1 then frq (p12 x j) m j else ze2)) 6).map U64) (hR (pl w) rfl hGF).2.1 rfl rfl rfl Tryz.sizeOf33 (by simp) (ak _) (by simp; omega) (ff _ _ (ml2 (cj2 (p12 x k)) (pw2 (GV m) k)) 6 (k) _ (by omega) rfl (fun j _ => by rw [← Iq hp]; exact ji (fun j => frq (p12 x j) m j) (fun _ => ze2) k j)) rfl ?_
   refine aa ?_
   refine aw (E := EE [175]) ?_
   refine fl ?_
   refine lc ent130 (lq _ _) ?_
   refine ai 6 (hR (pl w) rfl hGF).2.1 rfl rfl rfl Tryz.sizeOf33 (by simp) (by simp) (ak _) rfl ?_
   refine aa ?_
   repeat (refine aR ?_)
   exact ⟨_, rfl, ⟨rfl, rfl, rfl, rfl, rfl, rfl, rfl, trivial⟩⟩
  ·have hp : ¬ m % 2 = 1 := by simp at hc; omega
   refine aD ?_
   refine ac (E := EE [175]) ?_
   refine fl ?_
   refine lc ent130 (lq _ _) ?_
   refine bJ (k) (12 * (k)) rfl rfl Tryz.underlying192 Tryz.sizeOf33 (by omega) (by omega) (by omega) rfl rfl ?_
   refine db 7 ((FM (FF (fun j => if j < k + 1 then frq (p12 x j) m j else ze2)) 6).map U64) (hR (pl w) rfl hGF).2.1 rfl rfl rfl Tryz.sizeOf33 (by simp) (ak _) (by simp; omega) (ff _ _ (ml2 (p12 x k) (pw2 (GV m) k)) 6 (k) _ (by omega) rfl (fun j _ => by rw [← HA hp]; exact ji (fun j => frq (p12 x j) m j) (fun _ => ze2) k j)) rfl ?_
   refine aa ?_
   refine aw (E := EE [175]) ?_
   refine fl ?_
   refine lc ent130 (lq _ _) ?_
   refine ai 6 (hR (pl w) rfl hGF).2.1 rfl rfl rfl Tryz.sizeOf33 (by simp) (by simp) (ak _) rfl ?_
   refine aa ?_
   repeat (refine aR ?_)
   exact ⟨_, rfl, ⟨rfl, rfl, rfl, rfl, rfl, rfl, rfl, trivial⟩⟩
 ·intro D hD
  rw [lu]
  refine ac (E := EE [175]) ?_
  refine fl ?_
  refine lc ent176 (IY _) ?_
  refine ai 4 hD rfl rfl rfl Tryz.sizeOf49 (by simp) (by simp) (ak _) rfl ?_
  refine aa ?_
  refine rt ?_
  exact df (.inl rfl) aq (av 4 rfl rfl rfl Tryz.isAgg49 Tryz.sizeOf49 (by simp) (fun w hw => ⟨e12 rfl rfl, ah hw⟩))
end Q6
end
end Go.Proofs.YtpnpiblphnpfiaaGreatDoor
