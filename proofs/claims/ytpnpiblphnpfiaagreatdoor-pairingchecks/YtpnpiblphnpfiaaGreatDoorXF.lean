/-
 Elements of fp12 as values; what the laws of layer 7 share.
 The walks of package fp12.
 The walks of package fp12: powers.
 The walks of package fp12: its parts.
 The walks of package fp12: powers of p.
-/
import Derived.Test.YtpnpiblphnpfiaaGreatDoorXE
import Derived.Test.YtpnpiblphnpfiaaGreatDoorX3
import Derived.Test.YtpnpiblphnpfiaaGreatDoorXJ
import Derived.Test.YtpnpiblphnpfiaaGreatDoorX5
set_option maxRecDepth 100000
set_option maxHeartbeats 1000000
namespace Go.Proofs.YtpnpiblphnpfiaaGreatDoor
section
open Go.RowKit
theorem ent132 : ae Tryz.prog 132 := fun _ _ => by kernel_rfl
theorem ent174 : ae Tryz.prog 174 := fun _ _ => by kernel_rfl
theorem ent35 : ae Tryz.prog 35 := fun _ _ => by kernel_rfl
theorem ent196 : ae Tryz.prog 196 := fun _ _ => by kernel_rfl
theorem ent26 : ae Tryz.prog 26 := fun _ _ => by kernel_rfl
theorem ent176 : ae Tryz.prog 176 := fun _ _ => by kernel_rfl
theorem ent22 : ae Tryz.prog 22 := fun _ _ => by kernel_rfl
theorem ent134 : ae Tryz.prog 134 := fun _ _ => by kernel_rfl
theorem ent82 : ae Tryz.prog 82 := fun _ _ => by kernel_rfl
theorem ent33 : ae Tryz.prog 33 := fun _ _ => by kernel_rfl
theorem ent41 : ae Tryz.prog 41 := fun _ _ => by kernel_rfl
theorem ent175 : ae Tryz.prog 175 := fun _ _ => by kernel_rfl
namespace Q6
attribute [local simp] aL ba aI aH aB a9 aF aE aG PLl cb ce N1l bZ cd cf aV bc aJ aX aQ bR
attribute [local simp] iM cK
abbrev bq (x : W12) : Value := .agg ((((fe (x.1.1).1 ++ fe (x.1.1).2) ++ ((fe (x.1.2.1).1 ++ fe (x.1.2.1).2) ++ (fe (x.1.2.2).1 ++ fe (x.1.2.2).2))) ++ ((fe (x.2.1).1 ++ fe (x.2.1).2) ++ ((fe (x.2.2.1).1 ++ fe (x.2.2.1).2) ++ (fe (x.2.2.2).1 ++ fe (x.2.2.2).2)))).map U64).toArray
theorem zv49 (w : World) : (zeroValue 49).run Tryz.prog w = .ok (.agg ((((fe 0 ++ fe 0) ++ ((fe 0 ++ fe 0) ++ (fe 0 ++ fe 0))) ++ ((fe 0 ++ fe 0) ++ ((fe 0 ++ fe 0) ++ (fe 0 ++ fe 0)))).map U64).toArray) w := by rw [kT]; exact (Tryz.zeroValue49 w).trans (by rfl)
theorem qZ : Two Tryz.prog 49 ⟨ "C0", 47, 0, false, "", "", 0⟩ ⟨ "C1", 47, 36, false, "", "", 288⟩ 36 36 ((fe 0 ++ fe 0) ++ ((fe 0 ++ fe 0) ++ (fe 0 ++ fe 0))) ((fe 0 ++ fe 0) ++ ((fe 0 ++ fe 0) ++ (fe 0 ++ fe 0))) := ⟨Tryz.underlying49, rfl, rfl, Tryz.sizeOf47, Tryz.sizeOf47, zv49, by simp, by simp⟩
theorem e12 {a b a' b' : W6} (h1 : a = a') (h2 : b = b') : Ending.returned (bq (a, b)) = .returned (bq (a', b')) := by rw [h1, h2]
theorem rV {x y : W12} (h : x.1 = y.1) : decide (x.2 = y.2) = decide (x = y) := decide_eq_decide.2 ⟨fun e => Prod.ext h e, fun e => by rw [e]⟩
theorem rh {x y : W12} (h : ¬ x.1 = y.1) : false = decide (x = y) := (decide_eq_false fun e => h (by rw [e])).symm
def p12 (x : W12) : Nat → W2
 | 0 => x.1.1
 | 1 => x.2.1
 | 2 => x.1.2.1
 | 3 => x.2.2.1
 | 4 => x.1.2.2
 | _ => x.2.2.2
def q12 : Sh W12 := q6.two q6 6
theorem V12 (x : W12) : bq x = dn rid (.inl [x.1.1.1, x.1.1.2, x.1.2.1.1, x.1.2.1.2, x.1.2.2.1, x.1.2.2.2, x.2.1.1, x.2.1.2, x.2.2.1.1, x.2.2.1.2, x.2.2.2.1, x.2.2.2.2]) := by
 show Value.agg _ = Value.agg _
 rw [clv, show cel [x.1.1.1, x.1.1.2, x.1.2.1.1, x.1.2.1.2, x.1.2.2.1, x.1.2.2.2, x.2.1.1, x.2.1.2, x.2.2.1.1, x.2.2.1.2, x.2.2.2.1, x.2.2.2.2] = fe x.1.1.1 ++ (fe x.1.1.2 ++ (fe x.1.2.1.1 ++ (fe x.1.2.1.2 ++ (fe x.1.2.2.1 ++ (fe x.1.2.2.2 ++ (fe x.2.1.1 ++ (fe x.2.1.2 ++ (fe x.2.2.1.1 ++ (fe x.2.2.1.2 ++ (fe x.2.2.2.1 ++ fe x.2.2.2.2)))))))))) from rfl]
 simp only [List.append_assoc]
end Q6
end
section
open Go.RowKit
namespace Q6
attribute [local simp] aL ba aI aH aB a9 aF aE aG PLl cb ce N1l bZ cd cf aV bc aJ aX aQ bR
theorem rW2 {Q P : Prop} (k : Q) (h : Q → P := by intro k; (refine LY.run ?_); (repeat (first | refine bL rfl rfl rfl ?_ | refine bj rfl rfl rfl ?_ | ((refine xA rfl rfl ?_ rfl rfl rfl rfl ?_); (· simp)) | ((refine yd rfl rfl ?_ ?_ rfl rfl rfl rfl ?_); (· simp); (· simp)) | ((refine Gq rfl rfl ?_ rfl rfl ?_); (· simp)) | ((refine GO hGF rfl rfl rfl ?_ ?_ (ak _) rfl ?_); (· simp); (· simp)) | ((refine qq hGF rfl rfl rfl ?_ ?_ (ak _) rfl ?_); (· simp); (· simp)) | refine bQ (f := 90) rfl rfl ent90 (v5 _ _) rfl rfl ?_ | refine bQ (f := 91) rfl rfl ent91 (tE _ _) rfl rfl ?_ | refine bQ (f := 93) rfl rfl ent93 (ut _ _) rfl rfl ?_ | refine bQ (f := 92) rfl rfl ent92 (k6v _) rfl rfl ?_ | refine bQ (f := 177) rfl rfl ent177 (jN _) rfl rfl ?_ | refine fC rfl rfl rfl rfl rfl ?_)); (first | refine cn ?_ | refine LY.mk ?_); exact k) : P := h k
theorem pW2 {Q P : Prop} (k : Q) (h : Q → P := by intro k; (refine xp ?_); (refine rW2 ?_); exact k) : P := h k
attribute [local simp] iM cK
theorem iH  : Pure Tryz.prog Gt 22 [] (bq K12.one) := (bw rfl (V12 _) (pE TO51 Tryz.func22 [] (.inl (.inl [K12.one.1.1.1, K12.one.1.1.2, K12.one.1.2.1.1, K12.one.1.2.1.2, K12.one.1.2.2.1, K12.one.1.2.2.2, K12.one.2.1.1, K12.one.2.1.2, K12.one.2.2.1.1, K12.one.2.2.1.2, K12.one.2.2.2.1, K12.one.2.2.2.2])) (let t0 := K6.one; (.inl (.inl [t0.1.1, t0.1.2, t0.2.1.1, t0.2.1.2, t0.2.2.1, t0.2.2.2, 0, 0, 0, 0, 0, 0]), [])) [] (by kernel_rfl) aR rfl))
theorem vt {f : Nat} {g : W12} (en : ae Tryz.prog f) (h : Pure Tryz.prog Gt f [] (bq g)) : Snd Tryz.prog Gt f (c0 q12.rd g) := np q12.rd en (bw rfl (V12 _).symm h)
def TO52 : Tb Tryz.prog Gt := TO51.add (vt (g := K12.one) ent22 iH)
theorem ge (x y : W12) : Pure Tryz.prog Gt 33 [bq x, bq y] (.bool (decide (x = y))) := by
 intro w hw
 have hGF : BOk Gt (pl w) := gt_low.plain hw
 by_cases h : x.1 = y.1
 ·skip
  refine aM (G := Gt) Tryz.func33 rfl rfl (Hp (pl w) []) (a5 (pl w) trivial ai) (ap hGF) ?_
  refine xp ?_
  refine lb fun b2 => ?_
  refine lb fun b3 => ?_
  refine rW2 ?_
  refine pW2 ?_
  refine ew true rfl rfl ent84 (jw _ _) (decide_eq_true h) rfl rfl ?_
  refine rW2 ?_
  refine lc ent84 (jw _ _) ?_
  refine rW2 ?_
  refine rt ?_
  exact aW rfl rfl (fun w hw => ⟨rb (rV h), ac hw⟩)
 ·skip
  refine aM (G := Gt) Tryz.func33 rfl rfl (Hp (pl w) []) (a5 (pl w) trivial ai) (ap hGF) ?_
  refine xp ?_
  refine lb fun b2 => ?_
  refine lb fun b3 => ?_
  refine rW2 ?_
  refine pW2 ?_
  refine ew false rfl rfl ent84 (jw _ _) (decide_eq_false h) rfl rfl ?_
  refine rW2 ?_
  refine aU rfl rfl rfl ?_
  refine aU rfl rfl rfl ?_
  refine aU rfl rfl rfl ?_
  refine aU rfl rfl rfl ?_
  refine aU rfl rfl rfl ?_
  refine rW2 ?_
  refine rt ?_
  exact aW rfl rfl (fun w hw => ⟨rb (rh h), ac hw⟩)
theorem fg {f : Nat} {g : W12 → W12 → Bool} (en : ae Tryz.prog f) (h : ∀ a b, Pure Tryz.prog Gt f [bq a, bq b] (.bool (g a b))) : Snd Tryz.prog Gt f (c2 q12.ag q12.ag rdB g) := dI q12.ag q12.ag rdB en (fun a b => bw (l2 (V12 _).symm (V12 _).symm) rfl (h a b))
def TO53 : Tb Tryz.prog Gt := TO52.add (fg (g := fun x y => decide (x = y)) ent33 ge)
theorem iZ (x : W12) : Pure Tryz.prog Gt 26 [bq x] (.bool (decide (x = K12.zero))) := by
 intro w hw
 have hGF : BOk Gt (pl w) := gt_low.plain hw
 by_cases h : x.1 = K6.zero
 ·skip
  refine aM (G := Gt) Tryz.func26 rfl rfl (Hp (pl w) []) (a5 (pl w) trivial ai) (ap hGF) ?_
  refine xp ?_
  refine lb fun b1 => ?_
  refine rW2 ?_
  refine pW2 ?_
  refine ew true rfl rfl ent76 (iw _) (decide_eq_true h) rfl rfl ?_
  refine rW2 ?_
  refine lc ent76 (iw _) ?_
  refine rW2 ?_
  refine rt ?_
  exact aW rfl rfl (fun w hw => ⟨rb (rV (y := K12.zero) h), ac hw⟩)
 ·skip
  refine aM (G := Gt) Tryz.func26 rfl rfl (Hp (pl w) []) (a5 (pl w) trivial ai) (ap hGF) ?_
  refine xp ?_
  refine lb fun b1 => ?_
  refine rW2 ?_
  refine pW2 ?_
  refine ew false rfl rfl ent76 (iw _) (decide_eq_false h) rfl rfl ?_
  refine rW2 ?_
  refine aU rfl rfl rfl ?_
  refine aU rfl rfl rfl ?_
  refine aU rfl rfl rfl ?_
  refine rW2 ?_
  refine rt ?_
  exact aW rfl rfl (fun w hw => ⟨rb (rh (y := K12.zero) h), ac hw⟩)
theorem kt {f : Nat} {g : W12 → Bool} (en : ae Tryz.prog f) (h : ∀ a, Pure Tryz.prog Gt f [bq a] (.bool (g a))) : Snd Tryz.prog Gt f (c1 q12.ag rdB g) := ez q12.ag rdB en (fun a => bw (l1 (V12 _).symm) rfl (h a))
def TO54 : Tb Tryz.prog Gt := TO53.add (kt (g := fun x => decide (x = K12.zero)) ent26 iZ)
theorem jC (x : W12) : Pure Tryz.prog Gt 41 [bq x] (bq (bu x)) := (bw (l1 (V12 _)) (V12 _) (pE TO54 Tryz.func41 [.inl [x.1.1.1, x.1.1.2, x.1.2.1.1, x.1.2.1.2, x.1.2.2.1, x.1.2.2.2, x.2.1.1, x.2.1.2, x.2.2.1.1, x.2.2.1.2, x.2.2.2.1, x.2.2.2.2]] (.inl (.inl [(bu x).1.1.1, (bu x).1.1.2, (bu x).1.2.1.1, (bu x).1.2.1.2, (bu x).1.2.2.1, (bu x).1.2.2.2, (bu x).2.1.1, (bu x).2.1.2, (bu x).2.2.1.1, (bu x).2.2.1.2, (bu x).2.2.2.1, (bu x).2.2.2.2])) (let t0 := K6.neg ((x.2.1.1, x.2.1.2), (x.2.2.1.1, x.2.2.1.2), (x.2.2.2.1, x.2.2.2.2)); (.inl (.inl [x.1.1.1, x.1.1.2, x.1.2.1.1, x.1.2.1.2, x.1.2.2.1, x.1.2.2.2, t0.1.1, t0.1.2, t0.2.1.1, t0.2.1.2, t0.2.2.1, t0.2.2.2]), [])) [] (by kernel_rfl) aR rfl))
theorem ci {f : Nat} {g : W12 → W12} (en : ae Tryz.prog f) (h : ∀ a, Pure Tryz.prog Gt f [bq a] (bq (g a))) : Snd Tryz.prog Gt f (c1 q12.ag q12.rd g) := ez q12.ag q12.rd en (fun a => bw (l1 (V12 _).symm) (V12 _).symm (h a))
def TO55 : Tb Tryz.prog Gt := TO54.add (ci (g := bu) ent41 jC)
theorem tF (x y : W12) : Pure Tryz.prog Gt 35 [bq x, bq y] (bq (K12.mul x y)) := by
 refine a7 Tryz.func35 fun w hw hGF => ?_
 refine xp ?_
 refine lb fun b2 => ?_
 refine lb fun b3 => ?_
 refine la zv49 fun b4 => ?_
 refine aa ?_
 refine cg (E := EE [2999999]) [0, 1, 2, 3, 4, 5, 6, 7, 8, 9] [⟨10, 5, 47, ((fe 0 ++ fe 0) ++ ((fe 0 ++ fe 0) ++ (fe 0 ++ fe 0))).map U64⟩, ⟨11, 6, 47, ((fe 0 ++ fe 0) ++ ((fe 0 ++ fe 0) ++ (fe 0 ++ fe 0))).map U64⟩] [12, 13] bi rfl (by kernel_rfl) (by kernel_rfl) (by kernel_rfl) (by kernel_rfl) (by kernel_rfl) (by kernel_rfl) (by decide) (by intro x hx; simp only [List.mem_cons, List.not_mem_nil, or_false] at hx; rcases hx with rfl | rfl <;> exact bC rfl zv47 rfl) ?_
 refine rW2 ?_
 refine ⟨_, _, rfl, hGF, by intro x hx; simp only [List.mem_cons, List.not_mem_nil, or_false] at hx; rcases hx with rfl | rfl <;> rfl, by intro x hx; simp only [List.mem_cons, List.not_mem_nil, or_false] at hx; rcases hx with rfl | rfl <;> rfl, fun adr => ?_⟩
 refine rW2 ?_
 refine cg (E := EE [2999999]) [0, 1, 2, 3, 4, 5, 6, 7, 8, 9, 10] [⟨11, 7, 47, ((fe 0 ++ fe 0) ++ ((fe 0 ++ fe 0) ++ (fe 0 ++ fe 0))).map U64⟩] [12] bi rfl (by kernel_rfl) (by kernel_rfl) (by kernel_rfl) (by kernel_rfl) (by kernel_rfl) (by kernel_rfl) (by decide) (by intro x hx; simp only [List.mem_cons, List.not_mem_nil, or_false] at hx; subst hx; exact bC rfl zv47 rfl) ?_
 refine rW2 ?_
 refine ⟨_, _, rfl, hGF, by intro x hx; simp only [List.mem_cons, List.not_mem_nil, or_false] at hx; subst hx; rfl, by intro x hx; simp only [List.mem_cons, List.not_mem_nil, or_false] at hx; subst hx; rfl, fun adr => ?_⟩
 refine rW2 ?_
 refine bl (E := EE []) bi (by kernel_rfl) (by kernel_rfl) (by kernel_rfl) ?_
 refine rW2 ?_
 refine dr qZ rfl rfl (by simp) (by simp) rfl rfl ?_
 refine rW2 ?_
 refine rt ?_
 exact aw 4 rfl rfl rfl Tryz.isAgg49 Tryz.sizeOf49 (by simp) (fun w hw => ⟨e12 (zq K6 [x.1, x.2, y.1, y.2, VV] (ta (tm j0 j2) (tvv 4 (tm j1 j3) rfl)) (ta (tm j0 j2) (tm j4 (tm j1 j3)))) (zq K6 [x.1, x.2, y.1, y.2, VV] (wd (wd (tm (ta j0 j1) (ta j2 j3)) (tm j0 j2)) (tm j1 j3)) (ta (tm j0 j3) (tm j1 j2))), ac hw⟩)
theorem gR {f : Nat} {g : W12 → W12 → W12} (en : ae Tryz.prog f) (h : ∀ a b, Pure Tryz.prog Gt f [bq a, bq b] (bq (g a b))) : Snd Tryz.prog Gt f (c2 q12.ag q12.ag q12.rd g) := dI q12.ag q12.ag q12.rd en (fun a b => bw (l2 (V12 _).symm (V12 _).symm) (V12 _).symm (h a b))
theorem gE (x : W12) : Pure Tryz.prog Gt 82 [bq x] (bq (K12.mul x x)) := by
 refine a7 Tryz.func82 fun w hw hGF => ?_
 refine xp ?_
 refine lb fun b1 => ?_
 refine la zv49 fun b2 => ?_
 refine aa ?_
 refine pW2 ?_
 refine la zv47 fun b3 => ?_
 refine rW2 ?_
 refine cg (E := EE [2999999]) [0, 1, 2, 3, 4, 5, 6, 7, 8, 9, 10, 11] [⟨12, 4, 47, ((fe 0 ++ fe 0) ++ ((fe 0 ++ fe 0) ++ (fe 0 ++ fe 0))).map U64⟩] [13] bi rfl (by kernel_rfl) (by kernel_rfl) (by kernel_rfl) (by kernel_rfl) (by kernel_rfl) (by kernel_rfl) (by decide) (by intro x hx; simp only [List.mem_cons, List.not_mem_nil, or_false] at hx; subst hx; exact bC rfl zv47 rfl) ?_
 refine rW2 ?_
 refine ⟨_, _, rfl, hGF, by intro x hx; simp only [List.mem_cons, List.not_mem_nil, or_false] at hx; subst hx; rfl, by intro x hx; simp only [List.mem_cons, List.not_mem_nil, or_false] at hx; subst hx; rfl, fun adr => ?_⟩
 refine rW2 ?_
 refine bl (E := EE []) bi (by kernel_rfl) (by kernel_rfl) (by kernel_rfl) ?_
 refine rW2 ?_
 refine dr qZ rfl rfl (by simp) (by simp) rfl rfl ?_
 refine rW2 ?_
 refine rt ?_
 exact aw 2 rfl rfl rfl Tryz.isAgg49 Tryz.sizeOf49 (by simp) (fun w hw => ⟨e12 (zq K6 [x.1, x.2, VV] (wd (wd (tm (ta j0 j1) (ta j0 (tvv 2 j1 rfl))) (tm j0 j1)) (tvv 2 (tm j0 j1) rfl)) (ta (tm j0 j0) (tm j2 (tm j1 j1)))) (zq K6 [x.1, x.2, VV] (ta (tm j0 j1) (tm j0 j1)) (ta (tm j0 j1) (tm j1 j0))), ac hw⟩)
theorem BQ (x : W12) : sb6 (K6.mul x.1 x.1) (v6 (K6.mul x.2 x.2)) = qnm K6 VV x := zq K6 [x.1, x.2, VV] (wd (tm j0 j0) (tvv 2 (tm j1 j1) rfl)) (ta (tm j0 j0) (tn (tm j2 (tm j1 j1))))
theorem Fe (x : W12) (n : W6) : K6.mul x.1 n = K6.add (K6.mul x.1 n) (K6.mul VV (K6.mul (K6.neg x.2) K6.zero)) := zq K6 [x.1, x.2, n, VV] (tm j0 j2) (ta (tm j0 j2) (tm j3 (tm (tn j1) tz0)))
theorem Fh (x : W12) (n : W6) : K6.neg (K6.mul x.2 n) = K6.add (K6.mul x.1 K6.zero) (K6.mul (K6.neg x.2) n) := zq K6 [x.1, x.2, n] (tn (tm j1 j2)) (ta (tm j0 tz0) (tm (tn j1) j2))
theorem BB (x : W12) : Pure Tryz.prog Gt 134 [bq x] (bq (fv x)) := by
 refine a7 Tryz.func134 fun w hw hGF => ?_
 refine xp ?_
 refine lb fun b1 => ?_
 refine la zv49 fun b2 => ?_
 refine aa ?_
 refine cg (E := EE [2999999]) [0, 1, 2, 3, 4, 5, 6, 7] [⟨8, 3, 47, ((fe 0 ++ fe 0) ++ ((fe 0 ++ fe 0) ++ (fe 0 ++ fe 0))).map U64⟩] [9] bi rfl (by kernel_rfl) (by kernel_rfl) (by kernel_rfl) (by kernel_rfl) (by kernel_rfl) (by kernel_rfl) (by decide) (by intro x hx; simp only [List.mem_cons, List.not_mem_nil, or_false] at hx; subst hx; exact bC rfl zv47 rfl) ?_
 refine rW2 ?_
 refine ⟨_, _, rfl, hGF, by intro x hx; simp only [List.mem_cons, List.not_mem_nil, or_false] at hx; subst hx; rfl, by intro x hx; simp only [List.mem_cons, List.not_mem_nil, or_false] at hx; subst hx; rfl, fun adr => ?_⟩
 refine rW2 ?_
 refine pW2 ?_
 refine lc ent178 (vJ _) ?_
 refine la zv47 fun b4 => ?_
 refine rW2 ?_
 refine bl (E := EE []) bi (by kernel_rfl) (by kernel_rfl) (by kernel_rfl) ?_
 refine rW2 ?_
 refine lc ent99 (tU _) ?_
 refine dr qZ rfl rfl (by simp) (by simp) rfl rfl ?_
 refine rW2 ?_
 refine rt ?_
 exact aw 2 rfl rfl rfl Tryz.isAgg49 Tryz.sizeOf49 (by simp) (fun w hw => ⟨by rw [BQ]; exact e12 (Fe _ _) (Fh _ _), ac hw⟩)
end Q6
end
section
open Go.RowKit
namespace Q6
attribute [local simp] aL ba aI aH aB a9 aF aE aG PLl cb ce N1l bZ cd cf aV bc aJ aX aQ bR
attribute [local simp] iM cK
end Q6
end
section
open Go.RowKit
theorem ent195 : ae Tryz.prog 195 := fun _ _ => by kernel_rfl
namespace Q6
attribute [local simp] aL ba aI aH aB a9 aF aE aG PLl cb ce N1l bZ cd cf aV bc aJ aX aQ bR
theorem rW7 {Q P : Prop} (k : Q) (h : Q → P := by intro k; (refine LY.run ?_); (repeat (first | refine bL rfl rfl rfl ?_ | refine bj rfl rfl rfl ?_ | ((refine wU rfl rfl ?_ rfl rfl ?_); (· simp)) | ((refine qq hGF rfl rfl rfl ?_ ?_ (ak _) rfl ?_); (· simp); (· simp)) | ((refine E3 hGF rfl rfl rfl ?_ ?_ (ak _) rfl ?_); (· simp); (· simp)))); (first | refine cn ?_ | refine LY.mk ?_); exact k) : P := h k
theorem pW7 {Q P : Prop} (k : Q) (h : Q → P := by intro k; (refine xp ?_); (refine rW7 ?_); exact k) : P := h k
attribute [local simp] iM cK
theorem zv192 (w : World) : (zeroValue 192).run Tryz.prog w = .ok (.agg ((FM (FF fun _ => ze2) 6).map U64).toArray) w := by
 rw [ol]; exact (Tryz.zeroValue192 w).trans (by rfl)
abbrev TV6 (f : Nat → W2) : Value := .agg ((FM (FF f) 6).map U64).toArray
theorem Ca (f z : Nat → List (BitVec 64)) : ∀ i, i < 6 → sg f [0, 1, 2, 3, 4, 5] z i = f i := fun i hi => qR _ _ _ _ (.inl (by
 match i, hi with
 | 0, _ => decide
 | 1, _ => decide
 | 2, _ => decide
 | 3, _ => decide
 | 4, _ => decide
 | 5, _ => decide))
theorem xt (x : W12) : Pure Tryz.prog Gt 196 [bq x] (TV6 (p12 x)) := by
 refine a7 Tryz.func196 fun w hw hGF => ?_
 refine xp ?_
 refine lb fun b1 => ?_
 refine la zv192 fun b2 => ?_
 refine aa ?_
 refine xp ?_
 refine bS 0 rfl Tryz.underlying49 rfl Tryz.sizeOf47 (by decide) rfl rfl rfl ?_
 refine bS 0 rfl Tryz.underlying47 rfl Tryz.sizeOf33 (by decide) rfl rfl rfl ?_
 refine a8 1 _ rfl rfl Tryz.isAgg33 Tryz.sizeOf33 (by simp) (wr mM) rfl rfl ?_
 refine bS 36 rfl Tryz.underlying49 rfl Tryz.sizeOf47 (by decide) rfl rfl rfl ?_
 refine bS 36 rfl Tryz.underlying47 rfl Tryz.sizeOf33 (by decide) rfl rfl rfl ?_
 refine a8 1 _ rfl rfl Tryz.isAgg33 Tryz.sizeOf33 (by simp) (pf (m := 36) (o := 0) (by simp) rfl mM) rfl rfl ?_
 refine bS 0 rfl Tryz.underlying49 rfl Tryz.sizeOf47 (by decide) rfl rfl rfl ?_
 refine bS 12 rfl Tryz.underlying47 rfl Tryz.sizeOf33 (by decide) rfl rfl rfl ?_
 refine a8 1 _ rfl rfl Tryz.isAgg33 Tryz.sizeOf33 (by simp) (wr (Bp (by simp))) rfl rfl ?_
 refine bS 36 rfl Tryz.underlying49 rfl Tryz.sizeOf47 (by decide) rfl rfl rfl ?_
 refine bS 48 rfl Tryz.underlying47 rfl Tryz.sizeOf33 (by decide) rfl rfl rfl ?_
 refine a8 1 _ rfl rfl Tryz.isAgg33 Tryz.sizeOf33 (by simp) (pf (m := 36) (o := 12) (by simp) rfl (Bp (m := 12) (by simp))) rfl rfl ?_
 refine bS 0 rfl Tryz.underlying49 rfl Tryz.sizeOf47 (by decide) rfl rfl rfl ?_
 refine bS 24 rfl Tryz.underlying47 rfl Tryz.sizeOf33 (by decide) rfl rfl rfl ?_
 refine a8 1 _ rfl rfl Tryz.isAgg33 Tryz.sizeOf33 (by simp) (wr (vC (m := 12) (n := 12) (by simp) (by simp) rfl)) rfl rfl ?_
 refine bS 36 rfl Tryz.underlying49 rfl Tryz.sizeOf47 (by decide) rfl rfl rfl ?_
 refine bS 60 rfl Tryz.underlying47 rfl Tryz.sizeOf33 (by decide) rfl rfl rfl ?_
 refine a8 1 _ rfl rfl Tryz.isAgg33 Tryz.sizeOf33 (by simp) (pf (m := 36) (o := 24) (by simp) rfl (vC (m := 12) (n := 12) (by simp) (by simp) rfl)) rfl rfl ?_
 refine wm (s := 12) (FF (p12 x)) (FF (p12 x)) [0, 1, 2, 3, 4, 5] rfl rfl rfl (fun i _ => aJ _) Tryz.underlying192 Tryz.sizeOf33 zv192 (Ca _ _) rfl rfl ?_
 refine rW7 ?_
 refine rt ?_
 exact aw 2 rfl rfl rfl Tryz.isAgg192 Tryz.sizeOf192 (by simp) (fun w hw => ⟨rfl, ac hw⟩)
theorem Ej (f : Nat → W2) : Pure Tryz.prog Gt 176 [TV6 f] (bq (tq f)) := by
 refine a7 Tryz.func176 fun w hw hGF => ?_
 refine xp ?_
 refine lb fun b1 => ?_
 refine la zv49 fun b2 => ?_
 refine aa ?_
 refine xp ?_
 refine cY (0) (12 * (0)) rfl rfl Tryz.underlying192 Tryz.sizeOf33 (by omega) (by omega) (by omega) rfl rfl ?_
 refine a8 1 ((fe (f 0).1 ++ fe (f 0).2).map U64) rfl rfl Tryz.isAgg33 Tryz.sizeOf33 (by simp) (dy _ (f 0) 6 (0) _ (by omega) rfl (rfl)) rfl rfl ?_
 refine cY (2) (12 * (2)) rfl rfl Tryz.underlying192 Tryz.sizeOf33 (by omega) (by omega) (by omega) rfl rfl ?_
 refine a8 1 ((fe (f 2).1 ++ fe (f 2).2).map U64) rfl rfl Tryz.isAgg33 Tryz.sizeOf33 (by simp) (dy _ (f 2) 6 (2) _ (by omega) rfl (rfl)) rfl rfl ?_
 refine cY (4) (12 * (4)) rfl rfl Tryz.underlying192 Tryz.sizeOf33 (by omega) (by omega) (by omega) rfl rfl ?_
 refine a8 1 ((fe (f 4).1 ++ fe (f 4).2).map U64) rfl rfl Tryz.isAgg33 Tryz.sizeOf33 (by simp) (dy _ (f 4) 6 (4) _ (by omega) rfl (rfl)) rfl rfl ?_
 refine dJ ip rfl rfl rfl (by simp) (by simp) (by simp) rfl rfl ?_
 refine cY (1) (12 * (1)) rfl rfl Tryz.underlying192 Tryz.sizeOf33 (by omega) (by omega) (by omega) rfl rfl ?_
 refine a8 1 ((fe (f 1).1 ++ fe (f 1).2).map U64) rfl rfl Tryz.isAgg33 Tryz.sizeOf33 (by simp) (dy _ (f 1) 6 (1) _ (by omega) rfl (rfl)) rfl rfl ?_
 refine cY (3) (12 * (3)) rfl rfl Tryz.underlying192 Tryz.sizeOf33 (by omega) (by omega) (by omega) rfl rfl ?_
 refine a8 1 ((fe (f 3).1 ++ fe (f 3).2).map U64) rfl rfl Tryz.isAgg33 Tryz.sizeOf33 (by simp) (dy _ (f 3) 6 (3) _ (by omega) rfl (rfl)) rfl rfl ?_
 refine cY (5) (12 * (5)) rfl rfl Tryz.underlying192 Tryz.sizeOf33 (by omega) (by omega) (by omega) rfl rfl ?_
 refine a8 1 ((fe (f 5).1 ++ fe (f 5).2).map U64) rfl rfl Tryz.isAgg33 Tryz.sizeOf33 (by simp) (dy _ (f 5) 6 (5) _ (by omega) rfl (rfl)) rfl rfl ?_
 refine dJ ip rfl rfl rfl (by simp) (by simp) (by simp) rfl rfl ?_
 refine dr qZ rfl rfl (by simp) (by simp) rfl rfl ?_
 refine rW7 ?_
 refine rt ?_
 exact aw 2 rfl rfl rfl Tryz.isAgg49 Tryz.sizeOf49 (by simp) (fun w hw => ⟨rfl, ac hw⟩)
theorem kv (x : W12) (w : World) (hw : Gt w) : Calls Tryz.prog 175 [bq x].toArray w (fun e w' => ∃ b1, e = .returned (.func (.func 195) #[] #[.pointer (some ⟨b1, 0, none⟩)]) ∧ Grow w w' ∧ w.heap.size ≤ b1 ∧ OwnB w' b1 ((((fe (x.1.1).1 ++ fe (x.1.1).2) ++ ((fe (x.1.2.1).1 ++ fe (x.1.2.1).2) ++ (fe (x.1.2.2).1 ++ fe (x.1.2.2).2))) ++ ((fe (x.2.1).1 ++ fe (x.2.1).2) ++ ((fe (x.2.2.1).1 ++ fe (x.2.2.1).2) ++ (fe (x.2.2.2).1 ++ fe (x.2.2.2).2)))).map U64) 49) := by
 have hGF : BOk Gt (pl w) := gt_low.plain hw
 refine aM (G := Gt) Tryz.func175 rfl rfl (Hp (pl w) []) (a5 (pl w) trivial ai) (ap hGF) ?_
 refine xp ?_
 refine lb fun b1 => ?_
 refine rW7 ?_
 refine xp ?_
 refine il rfl rfl rfl rfl ?_
 refine rW7 ?_
 refine rt ?_
 exact aW rfl rfl (fun w hw => ⟨b1, rfl, ac hw, (hw.own 1 b1 _ _ rfl).2.elim id False.elim, (hw.own 1 b1 _ _ rfl).1⟩)
def s7 (x : W12) : List (List Value) := (List.range 6).map fun (k : Nat) => [I (k : Int), EV2 (p12 x k)]
theorem kB (x : W12) : (s7 x).length = 6 := by rw [s7, List.length_map, List.length_range]
theorem ns (x : W12) (k : Nat) (h : k < 6) : (s7 x)[k]? = some [I (k : Int), EV2 (p12 x k)] := by
 rw [s7, List.getElem?_map, List.getElem?_range h]; rfl
theorem yA (x : W12) (k : Nat) (v : List Value) (h : (s7 x)[k]? = some v) : k < 6 ∧ v = [I (k : Int), EV2 (p12 x k)] := by
 have hk : k < 6 := by
  rcases Nat.lt_or_ge k 6 with hk | hk
  ·exact hk
  ·rw [List.getElem?_eq_none (by rw [kB]; exact hk)] at h; cases h
 exact ⟨hk, (Option.some.inj ((ns x k hk).symm.trans h)).symm⟩
def zI (bb : Nat) (x : W12) : Cls := fun w => w.rangeAt bb 0 ((((fe (x.1.1).1 ++ fe (x.1.1).2) ++ ((fe (x.1.2.1).1 ++ fe (x.1.2.1).2) ++ (fe (x.1.2.2).1 ++ fe (x.1.2.2).2))) ++ ((fe (x.2.1).1 ++ fe (x.2.1).2) ++ ((fe (x.2.2.1).1 ++ fe (x.2.2.1).2) ++ (fe (x.2.2.2).1 ++ fe (x.2.2.2).2)))).map U64)
theorem Ce (bb : Nat) (x : W12) : fO Tryz.prog Gt 195 [.pointer (some ⟨bb, 0, none⟩)] (s7 x) (zI bb x) := by
 intro l J Jx hJ hJx hRd hGx hY w hj
 have okJ : ∀ k, BOk Gt (Bi w (fun Y => J Y k)) := fun k => ⟨fun _ _ _ h => (hRd _ _ _ h.rid).1, hJ k⟩
 have okX : ∀ k, BOk Gt (Bi w (fun Y => Jx Y k)) := fun k => ⟨fun _ _ _ h => hGx _ _ _ h.rid, hJx k⟩
 have c1 : ∀ k L w', Hp (Bi w (fun Y => J Y k)) L w' → zI bb x w' := fun k L w' h => (hRd _ _ _ h.rid).2
 refine aM (G := Gt) Tryz.func195 rfl rfl (Hp (Bi w (fun Y => J Y 0)) []) (a5 (Bi w _) hj (hJ 0)) (ap (okJ 0)) ?_
 refine xp ?_
 refine dH rfl Tryz.isAgg49 Tryz.sizeOf49 (by simp) (fun w h => c1 _ _ w h) rfl rfl ?_
 refine lc ent196 (xt _) ?_
 refine rW7 ?_
 refine am ?_
 refine iI (ι := { i : Nat // i ≤ 6 }) (fun y => [(0, .func (.yield l) #[] #[]), (1, .pointer (some ⟨bb, 0, none⟩)), (6, TV6 (p12 x)), (7, I (y.1 : Int))]) (fun y => Bi w (fun Y => J Y y.1)) (fun y => []) (fun y => 6 - y.1) ⟨0, Nat.zero_le _⟩ (fun _ => okJ _) rfl ⟨rfl, rfl, rfl, rfl, trivial⟩ trivial ?_
 rintro ⟨i, hi⟩
 dsimp only
 refine xp ?_
 refine ah rfl rfl (fun _ => rfl) (fun _ => aA _ _ _) rfl rfl ?_
 refine aa ?_
 refine aj ?_
 refine bY rfl (fun hc => ?_) (fun hc => ?_)
 ·have hi2 : i < 6 := by simp at hc; omega
  refine aD ?_
  refine aj ?_
  refine am ?_
  refine pW7 ?_
  refine rU (FF (p12 x)) (i) rfl rfl Tryz.underlying192 Tryz.sizeOf33 Tryz.isAgg33 (by omega) (by omega) (aJ _) rfl rfl ?_
  refine bK 4 (okJ _) zv33 rfl rfl ?_
  intro b4
  refine rW7 ?_
  refine ao 4 (okJ _) rfl rfl rfl Tryz.sizeOf33 (by simp) (by simp) (ak _) rfl ?_
  refine aa ?_
  refine pW7 ?_
  refine eE (hY.b (k := i) (ns x i (by omega)) w) (okJ _) (okX _) rfl rfl rfl rfl rfl ?_ ?_
  ·skip
   refine bH rfl (fun _ => bt _) rfl rfl ?_
   refine aa ?_
   refine bg rfl ?_
   refine aD ?_
   refine av (E := EE []) ?_
   refine ah rfl rfl (fun _ => rfl) (fun _ => aO _ _ _ (by unfold inI; omega)) rfl rfl ?_
   refine rW7 ?_
   repeat (refine a6 ?_)
   refine bB ?_
   exact ⟨rfl, ⟨i + 1, by omega⟩, _, by show 6 - (i + 1) < 6 - i; omega, rfl, ⟨rfl, rfl, rfl, rfl, trivial⟩, trivial⟩
  ·skip
   refine bH rfl (fun _ => bt _) rfl rfl ?_
   refine aa ?_
   refine bF rfl ?_
   refine rt ?_
   repeat (first | refine eG ?_ | refine bV ?_ | refine eB rfl ?_ | refine aP ?_ | refine aT ?_)
   exact dw rfl (fun w hw => ⟨⟨_, rfl⟩, .inr ⟨_, cw (hJx _) hw.rid⟩⟩)
 ·obtain rfl : i = 6 := by simp at hc; omega
  refine bf ?_
  repeat (first | refine eG ?_ | refine bV ?_ | refine eB rfl ?_ | refine aP ?_ | refine aT ?_)
  refine dZ rfl (fun w hw => ⟨⟨_, rfl⟩, .inl ?_⟩)
  have := cw (hJ _) hw.rid
  rw [kB]
  exact this
end Q6
end
section
open Go.RowKit
namespace Q6
attribute [local simp] aL ba aI aH aB a9 aF aE aG PLl cb ce N1l bZ cd cf aV bc aJ aX aQ bR
theorem eT {Q P : Prop} (k : Q) (h : Q → P := by intro k; (refine LY.run ?_); (repeat (first | refine bL rfl rfl rfl ?_ | refine bj rfl rfl rfl ?_ | ((refine wU rfl rfl ?_ rfl rfl ?_); (· simp)) | ((refine nj rfl rfl ?_ rfl rfl ?_); (· simp)) | ((refine vF rfl rfl ?_ rfl rfl ?_); (· simp)) | ((refine GH rfl rfl ?_ rfl rfl ?_); (· simp)) | ((refine yB hGF rfl rfl rfl ?_ ?_ (ak _) rfl ?_); (· simp); (· simp)) | ((refine oZ hGF rfl rfl rfl ?_ ?_ (ak _) rfl ?_); (· simp); (· simp)) | refine gc rfl rfl rfl rfl ?_ | refine bQ (f := 107) rfl rfl ent107 (wh) rfl rfl ?_ | refine bQ (f := 171) rfl rfl ent171 (tW _) rfl rfl ?_)); (first | refine cn ?_ | refine LY.mk ?_); exact k) : P := h k
attribute [local simp] iM cK
theorem nt (e : Option Addr) (cap : Nat) (w : World) (hw : Gt w) (hby : BytesAt w e SXB) :
  Calls Tryz.prog 46 [.slice e SXB.length cap].toArray w (fun r w' => r = .returned (.tuple #[EV SR, .bool (FO SXB)]) ∧ Grow w w') := by
 have h := eI e cap SXB w hw hby
 rw [CL] at h
 exact h
theorem Gj {m : Nat} (h : m % 2 = 1) (y : W2) (k : Nat) : frq y m k = ml2 (cj2 y) (pw2 (GV m) k) := by rw [frq, cjn, if_pos h]
theorem EM {m : Nat} (h : ¬ m % 2 = 1) (y : W2) (k : Nat) : frq y m k = ml2 y (pw2 (GV m) k) := by rw [frq, cjn, if_neg h]
theorem GV_s (i : Nat) : GV (i + 1) = ml2 (cj2 (GV i)) ((SR, -SR) : W2) := by rw [Gn]; rfl
theorem u2 (n : Nat) (hn : n ≤ 1000) : Pure Tryz.prog Gt 174 [I (n : Int)] (EV2 (GV n)) := by
 refine a7 Tryz.func174 fun w hw hGF => ?_
 refine ab (E := EE [1000022]) ?_
 refine la zv33 fun b2 => ?_
 refine aa ?_
 refine ab (E := EE [1000022]) ?_
 refine pD 8 SXB hGF rfl rfl rfl (by decide) (by decide) Tryz.underlying22 Tryz.sizeOf5 Tryz.zeroValue5 rfl rfl ?_
 intro b8
 refine qc 8 rfl hGF rfl rfl Tryz.underlying22 Tryz.underlying5 rfl rfl ?_
 refine bz rfl rfl ent46 (fun w' hC hG => nt _ _ w' hG (BytesAt.range (hC.own 8 b8 _ _ rfl).1.range)) rfl rfl ?_
 refine eT ?_
 refine la zv27 fun b3 => ?_
 refine eT ?_
 refine cg (E := EE [1000022, 2999999]) [0, 1, 2, 3] [⟨4, 5, 33, (fe 0 ++ fe 0).map U64⟩] [5] bi rfl (by kernel_rfl) (by kernel_rfl) (by kernel_rfl) (by kernel_rfl) (by kernel_rfl) (by kernel_rfl) (by decide) (by intro x hx; simp only [List.mem_cons, List.not_mem_nil, or_false] at hx; subst hx; exact bC rfl zv33 rfl) ?_
 refine eT ?_
 refine lc ent100 (ly _) ?_
 refine dr wG rfl rfl (by simp) (by simp) rfl rfl ?_
 refine aa ?_
 refine ⟨_, _, rfl, hGF, by intro x hx; simp only [List.mem_cons, List.not_mem_nil, or_false] at hx; subst hx; rfl, by intro x hx; simp only [List.mem_cons, List.not_mem_nil, or_false] at hx; subst hx; rfl, fun adr => ?_⟩
 refine eT ?_
 refine ab (E := EE [1000022]) ?_
 refine eT ?_
 refine la zv33 fun b6 => ?_
 refine eT ?_
 refine aj ?_
 refine ab (E := EE [1000022]) ?_
 refine eT ?_
 refine am ?_
 refine cp (ι := { i : Nat // i ≤ n }) (fun y => [(0, I (n : Int)), (2, .pointer (some ⟨b2, 0, none⟩)), (3, .pointer (some ⟨b3, 0, none⟩)), (5, .pointer (some ⟨(adr 5), 0, none⟩)), (6, .pointer (some ⟨b6, 0, none⟩)), (18, I (n : Int)), (19, I (y.1 : Int))]) (fun y => [(2, b2, (fe 0 ++ fe 0).map U64, 33), (3, b3, (fe SR).map U64, 27), (5, adr 5, (fe SR ++ fe (-SR)).map U64, 33), (6, b6, (fe (GV y.1).1 ++ fe (GV y.1).2).map U64, 33)]) (fun y => n - y.1) ⟨0, Nat.zero_le _⟩ hGF ⟨rfl, rfl, rfl, rfl, rfl, rfl, rfl, trivial⟩ ⟨rfl, rfl, rfl, rfl, trivial⟩ ?_
 rintro ⟨i, hi⟩
 dsimp only
 refine ab (E := EE [1000022]) ?_
 refine ah rfl rfl (fun _ => rfl) (fun _ => aA _ _ _) rfl rfl ?_
 refine aa ?_
 refine aj ?_
 refine bY rfl (fun hc => ?_) (fun hc => ?_)
 ·simp only [decide_eq_true_eq] at hc
  refine aD ?_
  refine aj ?_
  refine am ?_
  refine db (E := EE [1000022]) bi (by kernel_rfl) (by kernel_rfl) (by kernel_rfl) ?_
  refine eT ?_
  refine az rfl rfl ent130 (ko (cj2 (GV i)) ((SR, -SR) : W2)) rfl rfl ?_
  refine eT ?_
  refine av (E := EE [1000022]) ?_
  refine ah rfl rfl (fun _ => rfl) (fun _ => aO _ _ _ (by unfold inI; omega)) rfl rfl ?_
  refine eT ?_
  repeat (refine a6 ?_)
  refine bB ?_
  exact ⟨rfl, ⟨i + 1, by omega⟩, _, by show n - (i + 1) < n - i; omega, rfl, ⟨rfl, rfl, rfl, rfl, rfl, rfl, rfl, trivial⟩, ⟨rfl, rfl, rfl, by rw [GV_s i]; rfl, trivial⟩⟩
 ·obtain rfl : n = i := by simp at hc; omega
  refine bf ?_
  refine ab (E := EE [1000022]) ?_
  refine eT ?_
  refine rt ?_
  exact aw 2 rfl rfl rfl Tryz.isAgg33 Tryz.sizeOf33 (by simp) (fun w hw => ⟨rfl, ac hw⟩)
theorem qF (x : W12) (n : Int) : Pure Tryz.prog Gt 132 [bq x, I n] (bq (fH x (n % 12).toNat)) := by
 intro w hw
 have hGF : BOk Gt (pl w) := gt_low.plain hw
 obtain ⟨m, hm⟩ : ∃ m : Nat, (n % 12).toNat = m := ⟨_, rfl⟩
 have hm6 : m < 12 := by omega
 rw [hm, qJ]
 refine bE (G := Gt) Tryz.func132 rfl rfl (Hp (pl w) []) (a5 (pl w) trivial ai) (ap hGF) ?_
 refine ab (E := EE [175]) ?_
 refine lb fun b2 => ?_
 refine jQ 3 hGF rfl rfl rfl ?_
 intro b3
 refine la zv49 fun b4 => ?_
 refine aa ?_
 refine ab (E := EE [175]) ?_
 refine bT 3 rfl rfl rfl Tryz.isAgg3 rfl rfl ?_
 refine ah (v := I (n.tmod 12)) rfl rfl (fun _ => rfl) (fun _ => dX _ _ _ (by decide)) rfl rfl ?_
 refine ah (v := I (n.tmod 12 + 12)) rfl rfl (fun _ => rfl) (fun _ => aO _ _ _ (we n)) rfl rfl ?_
 refine ah (v := I (m : Int)) rfl rfl (fun _ => rfl) (fun _ => (dX _ _ _ (by decide)).trans (by rw [FT, hm])) rfl rfl ?_
 refine cu 3 hGF rfl rfl rfl Tryz.sizeOf3 rfl (by show 0 < 1; decide) rfl ?_
 refine aa ?_
 refine ab (E := EE [175]) ?_
 refine bT 3 rfl rfl rfl Tryz.isAgg3 rfl rfl ?_
 refine az rfl rfl ent174 (u2 m (by omega)) rfl rfl ?_
 refine eT ?_
 refine la zv33 fun b5 => ?_
 refine la zv33 fun b6 => ?_
 refine eT ?_
 refine ab (E := EE [175]) ?_
 refine la zv192 fun b7 => ?_
 refine aa ?_
 refine aj ?_
 refine ab (E := EE [175]) ?_
 refine eT ?_
 refine cx rfl rfl ent175 rfl rfl (fun w' hw' => (kv x w' (hGF.g _ _ _ hw')).mono fun e' w'' h => ?_)
 obtain ⟨c1, rfl, hg, h1, ho⟩ := h
 refine ⟨_, _, rfl, ap hGF, hw'.news ai hg [(33, c1, (((fe (x.1.1).1 ++ fe (x.1.1).2) ++ ((fe (x.1.2.1).1 ++ fe (x.1.2.1).2) ++ (fe (x.1.2.2).1 ++ fe (x.1.2.2).2))) ++ ((fe (x.2.1).1 ++ fe (x.2.1).2) ++ ((fe (x.2.2.1).1 ++ fe (x.2.2.1).2) ++ (fe (x.2.2.2).1 ++ fe (x.2.2.2).2)))).map U64, 49)] ?_ di, ?_⟩
 ·intro n' b' c' t' hl
  rcases bh hl with ⟨_, e⟩ | ⟨_, hl⟩
  ·cases e; exact ⟨h1, ho⟩
  ·cases hl
 clear hw' hg h1 ho
 refine aa ?_
 refine am ?_
 refine c9 (fun _ => pl w) (fun _ _ => pl w) (fun _ => hGF) (fun _ _ => hGF) (fun _ => rfl) (fun _ _ => rfl) rfl rfl ent195 (Ce c1 x) (fun v hv => by obtain ⟨k, hk, rfl⟩ := List.mem_map.1 hv; rfl) rfl (fun k => [(2, b2, (((fe (x.1.1).1 ++ fe (x.1.1).2) ++ ((fe (x.1.2.1).1 ++ fe (x.1.2.1).2) ++ (fe (x.1.2.2).1 ++ fe (x.1.2.2).2))) ++ ((fe (x.2.1).1 ++ fe (x.2.1).2) ++ ((fe (x.2.2.1).1 ++ fe (x.2.2.1).2) ++ (fe (x.2.2.2).1 ++ fe (x.2.2.2).2)))).map U64, 49), (3, b3, [I (m : Int)], 3), (4, b4, (((fe 0 ++ fe 0) ++ ((fe 0 ++ fe 0) ++ (fe 0 ++ fe 0))) ++ ((fe 0 ++ fe 0) ++ ((fe 0 ++ fe 0) ++ (fe 0 ++ fe 0)))).map U64, 49), (5, b5, (fe (GV m).1 ++ fe (GV m).2).map U64, 33), (6, b6, (fe (pw2 (GV m) k).1 ++ fe (pw2 (GV m) k).2).map U64, 33), (7, b7, (FM (FF (fun j => if j < k then frq (p12 x j) m j else ze2)) 6).map U64, 192), (33, c1, (((fe (x.1.1).1 ++ fe (x.1.1).2) ++ ((fe (x.1.2.1).1 ++ fe (x.1.2.1).2) ++ (fe (x.1.2.2).1 ++ fe (x.1.2.2).2))) ++ ((fe (x.2.1).1 ++ fe (x.2.1).2) ++ ((fe (x.2.2.1).1 ++ fe (x.2.2.1).2) ++ (fe (x.2.2.2).1 ++ fe (x.2.2.2).2)))).map U64, 49)]) (fun _ _ _ => False) ⟨rfl, rfl, rfl, rfl, rfl, congrArg (fun l => some (b7, l, _)) (congrArg (List.map U64) (nL fun j _ => (if_neg (Nat.not_lt_zero j)).symm)), rfl, trivial⟩ (fun k _ w' h => cz (n := 33) rfl w' h) ?_ ?_ (fun _ _ _ _ _ h => h.elim)
 ·intro k v hx R hR
  obtain ⟨hk, rfl⟩ := yA x k v hx
  refine ab (E := EE [175]) ?_
  refine eT ?_
  refine av (E := EE [175]) ?_
  refine bK 9 (hR (pl w) rfl hGF).1 zv33 rfl rfl ?_
  intro b9
  refine ao 9 (hR (pl w) rfl hGF).1 rfl rfl rfl Tryz.sizeOf33 (by simp) (by simp) (ak _) rfl ?_
  refine aa ?_
  refine ⟨rfl, _, rfl, ?_⟩
  refine am ?_
  refine aj ?_
  refine ab (E := EE [175]) ?_
  refine bT 3 rfl rfl rfl Tryz.isAgg3 rfl rfl ?_
  refine ah (v := I ((m % 2 : Nat) : Int)) rfl rfl (fun _ => rfl) (fun _ => dX _ _ _ (by decide)) rfl rfl ?_
  refine ah rfl rfl (fun _ => rfl) (fun _ => sr _ _ _) rfl rfl ?_
  refine aa ?_
  refine bY rfl (fun hc => ?_) (fun hc => ?_)
  ·have hp : m % 2 = 1 := by simp at hc; omega
   refine av (E := EE [175]) ?_
   refine eT ?_
   refine ao 9 (hR (pl w) rfl hGF).2.1 rfl rfl rfl Tryz.sizeOf33 (by simp) (by simp) (ak _) rfl ?_
   refine aa ?_
   refine ab (E := EE [175]) ?_
   refine eT ?_
   refine lc ent130 (ko _ _) ?_
   refine cY (k) (12 * (k)) rfl rfl Tryz.underlying192 Tryz.sizeOf33 (by omega) (by omega) (by omega) rfl rfl ?_
   refine gC 7 ((FM (FF (fun j => if j < k + 1 then frq (p12 x j) m j else ze2)) 6).map U64) (hR (pl w) rfl hGF).2.1 rfl rfl rfl Tryz.sizeOf33 (by simp) (ak _) (by simp; omega) (mQ _ _ (ml2 (cj2 (p12 x k)) (pw2 (GV m) k)) 6 (k) _ (by omega) rfl (fun j _ => by rw [← Gj hp]; exact pR (fun j => frq (p12 x j) m j) (fun _ => ze2) k j)) rfl ?_
   refine aa ?_
   refine av (E := EE [175]) ?_
   refine eT ?_
   refine lc ent130 (ko _ _) ?_
   refine ao 6 (hR (pl w) rfl hGF).2.1 rfl rfl rfl Tryz.sizeOf33 (by simp) (by simp) (ak _) rfl ?_
   refine aa ?_
   repeat (refine a6 ?_)
   exact ⟨_, rfl, ⟨rfl, rfl, rfl, rfl, rfl, rfl, rfl, trivial⟩⟩
  ·have hp : ¬ m % 2 = 1 := by simp at hc; omega
   refine aD ?_
   refine ab (E := EE [175]) ?_
   refine eT ?_
   refine lc ent130 (ko _ _) ?_
   refine cY (k) (12 * (k)) rfl rfl Tryz.underlying192 Tryz.sizeOf33 (by omega) (by omega) (by omega) rfl rfl ?_
   refine gC 7 ((FM (FF (fun j => if j < k + 1 then frq (p12 x j) m j else ze2)) 6).map U64) (hR (pl w) rfl hGF).2.1 rfl rfl rfl Tryz.sizeOf33 (by simp) (ak _) (by simp; omega) (mQ _ _ (ml2 (p12 x k) (pw2 (GV m) k)) 6 (k) _ (by omega) rfl (fun j _ => by rw [← EM hp]; exact pR (fun j => frq (p12 x j) m j) (fun _ => ze2) k j)) rfl ?_
   refine aa ?_
   refine av (E := EE [175]) ?_
   refine eT ?_
   refine lc ent130 (ko _ _) ?_
   refine ao 6 (hR (pl w) rfl hGF).2.1 rfl rfl rfl Tryz.sizeOf33 (by simp) (by simp) (ak _) rfl ?_
   refine aa ?_
   repeat (refine a6 ?_)
   exact ⟨_, rfl, ⟨rfl, rfl, rfl, rfl, rfl, rfl, rfl, trivial⟩⟩
 ·intro D hD
  rw [kB]
  refine ab (E := EE [175]) ?_
  refine eT ?_
  refine lc ent176 (Ej _) ?_
  refine ao 4 hD rfl rfl rfl Tryz.sizeOf49 (by simp) (by simp) (ak _) rfl ?_
  refine aa ?_
  refine rt ?_
  exact cr (.inl rfl) ai (aw 4 rfl rfl rfl Tryz.isAgg49 Tryz.sizeOf49 (by simp) (fun w hw => ⟨e12 rfl rfl, ac hw⟩))
end Q6
end
end Go.Proofs.YtpnpiblphnpfiaaGreatDoor
